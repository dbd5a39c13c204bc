/-
  The block of SHA-256.
-/
import Derived.Test.YtoiiiflnnhkjbaaGreatDoorHp
import Derived.Test.YtoiiiflnnhkjbaaGreatDoorOGen
import Derived.Deep.QuietTactic
import Derived.BigQuiet
import Derived.Laws.BitsAllLaws
import Derived.IntWalk
import Derived.Laws.CopyOwn
import Derived.Deep.WholeRow
import Derived.StillTailTactics
import Derived.Deep.RegionHeld3
namespace Go.Proofs.YtoiiiflnnhkjbaaGreatDoor
set_option linter.unusedVariables false
open Go.RowKit

def turnN (x a b c : Nat) : Nat := rotN x a ^^^ rotN x b ^^^ rotN x c
def tasN (x a b c : Nat) : Nat := rotN x a ^^^ rotN x b ^^^ (x / 2 ^ c)
theorem and31 (k : Int) (h1 : 1 ≤ k) (h2 : k ≤ 31) : bits .and .u64 (IntKind.u64.wrap (-k)) 31 = 32 - k := by
  obtain ⟨n, rfl⟩ := Int.eq_ofNat_of_zero_le (show 0 ≤ k by omega)
  have all : ∀ j : Fin 32, 1 ≤ j.val → bits .and .u64 (IntKind.u64.wrap (-(j.val : Int))) 31 = 32 - (j.val : Int) := by decide +kernel
  exact all ⟨n, by omega⟩ (by show 1 ≤ n; omega)
theorem rot_any (x k : Nat) (w : World) (hx : x < 4294967296) (h1 : 1 ≤ k) (h2 : k ≤ 31) :
    Calls Tryz.prog 115 #[.int .u32 x, .int .i64 (-(k : Int))] w fun e w' => e = .returned (.int .u32 (rotN x k : Nat)) ∧ w = w' := by
  have h3 := and31 k (by omega) (by omega)
  have e0 : ((32 : Int) - (k : Int)).toNat = 32 - k := by omega
  have h4 : min ((32 : Int) - (k : Int)).toNat IntKind.u32.bits = 32 - k := by have : IntKind.u32.bits = 32 := rfl; omega
  have h5 : IntKind.u64.wrap (32 - (32 - (k : Int))) = k := by rw [IntKind.wrap_u64]; omega
  have h6 : min (k : Int).toNat IntKind.u32.bits = k := by have : IntKind.u32.bits = 32 := rfl; omega
  have h9 : bits .or .u32 ((x : Int) * 2 ^ (32 - k) % 4294967296) ((x : Int) / 2 ^ k) = (rotN x k : Nat) := rot_eq x k hx
  have h7 : ∀ w, Sem.run Tryz.prog (Op.shift .shl .u32 x .u64 (32 - (k : Int))) w = .ok (.int .u32 ((x : Int) * 2 ^ (32 - k) % 4294967296)) w := by
    intro w; rw [shift_shl_any _ _ _ _ (by omega), h4, IntKind.wrap_u32']; rfl
  have h8 : ∀ w, Sem.run Tryz.prog (Op.shift .shr .u32 x .u64 k) w = .ok (.int .u32 ((x : Int) / 2 ^ k)) w := by
    intro w; rw [shift_shr_any _ _ _ _ (by omega), h6]; rfl
  clear h4 h6 e0 hx
  go_enter Tryz.func115, Tryz.ntmps115
  go_wp2_with fail
  go_ret
  exact ⟨rfl, rfl⟩
theorem turn_any (x a b c : Nat) (w : World) (hx : x < 4294967296) (a1 : 1 ≤ a) (a2 : a ≤ 31) (b1 : 1 ≤ b) (b2 : b ≤ 31) (c1 : 1 ≤ c) (c2 : c ≤ 31) :
    Calls Tryz.prog 114 #[.int .u32 x, .int .i64 a, .int .i64 b, .int .i64 c] w fun e w' => e = .returned (.int .u32 (turnN x a b c : Nat)) ∧ w = w' := by
  have e1 : bits .xor .u32 (rotN x a : Nat) (rotN x b : Nat) = ((rotN x a ^^^ rotN x b : Nat) : Int) := u32_xor_nat _ _ (rotN_lt hx) (rotN_lt hx)
  have e2 : bits .xor .u32 ((rotN x a ^^^ rotN x b : Nat) : Int) (rotN x c : Nat) = ((turnN x a b c : Nat) : Int) := u32_xor_nat _ _ (xor_lt32 (rotN_lt hx) (rotN_lt hx)) (rotN_lt hx)
  go_enter Tryz.func114, Tryz.ntmps114
  go_wp2_with (go_at_call 115; refine (rot_any _ _ _ hx (by omega) (by omega)).mono ?_; rintro e w' ⟨rfl, rfl⟩)
  go_ret
  exact ⟨rfl, rfl⟩
theorem tas_any (x a b c : Nat) (w : World) (hx : x < 4294967296) (a1 : 1 ≤ a) (a2 : a ≤ 31) (b1 : 1 ≤ b) (b2 : b ≤ 31) (c1 : 1 ≤ c) (c2 : c ≤ 31) :
    Calls Tryz.prog 117 #[.int .u32 x, .int .i64 a, .int .i64 b, .int .i64 c] w fun e w' => e = .returned (.int .u32 (tasN x a b c : Nat)) ∧ ∃ n, w' = w.drewN n := by
  have h6 : min (c : Int).toNat IntKind.u32.bits = c := by have : IntKind.u32.bits = 32 := rfl; omega
  have h8 : ∀ w, Sem.run Tryz.prog (Op.shift .shr .u32 x .i64 c) w = .ok (.int .u32 ((x : Int) / 2 ^ c)) w := by
    intro w; rw [shift_shr_any _ _ _ _ (by omega), h6]; rfl
  have e1 : bits .xor .u32 (rotN x a : Nat) (rotN x b : Nat) = ((rotN x a ^^^ rotN x b : Nat) : Int) := u32_xor_nat _ _ (rotN_lt hx) (rotN_lt hx)
  have e2 : bits .xor .u32 ((rotN x a ^^^ rotN x b : Nat) : Int) ((x : Int) / 2 ^ c) = ((tasN x a b c : Nat) : Int) := by
    have := u32_xor_nat (rotN x a ^^^ rotN x b) (x / 2 ^ c) (xor_lt32 (rotN_lt hx) (rotN_lt hx)) (div_lt32 c hx)
    rw [Int.natCast_ediv, pow_cast] at this
    exact this
  clear h6
  have e3 : IntKind.i64.wrap (-(a : Int)) = -(a : Int) := IntWalk.i64_in _ (by omega)
  have e4 : IntKind.i64.wrap (-(b : Int)) = -(b : Int) := IntWalk.i64_in _ (by omega)
  go_enter Tryz.func117, Tryz.ntmps117
  go_wp2_with fail
  go_quiet ((go_at_call 115; first | (with_reducible exact quiet_same (rot_any x a _ hx a1 a2)) | (with_reducible exact quiet_same (rot_any x b _ hx b1 b2))))
  go_wp2
  go_ret
  exact ⟨rfl, _, rfl⟩
def kL : List Nat := [1116352408, 1899447441, 3049323471, 3921009573, 961987163, 1508970993, 2453635748, 2870763221, 3624381080, 310598401, 607225278, 1426881987, 1925078388, 2162078206, 2614888103, 3248222580, 3835390401, 4022224774, 264347078, 604807628, 770255983, 1249150122, 1555081692, 1996064986, 2554220882, 2821834349, 2952996808, 3210313671, 3336571891, 3584528711, 113926993, 338241895, 666307205, 773529912, 1294757372, 1396182291, 1695183700, 1986661051, 2177026350, 2456956037, 2730485921, 2820302411, 3259730800, 3345764771, 3516065817, 3600352804, 4094571909, 275423344, 430227734, 506948616, 659060556, 883997877, 958139571, 1322822218, 1537002063, 1747873779, 1955562222, 2024104815, 2227730452, 2361852424, 2428436474, 2756734187, 3204031479, 3329325298]
def firstL : List Nat := [1779033703, 3144134277, 1013904242, 2773480762, 1359893119, 2600822924, 528734635, 1541459225]
structure S8 where
  a : Nat
  b : Nat
  c : Nat
  d : Nat
  e : Nat
  f : Nat
  g : Nat
  h : Nat
def S8.list (s : S8) : List Nat := [s.a, s.b, s.c, s.d, s.e, s.f, s.g, s.h]
def S8.of (l : List Nat) : S8 := ⟨l.getD 0 0, l.getD 1 0, l.getD 2 0, l.getD 3 0, l.getD 4 0, l.getD 5 0, l.getD 6 0, l.getD 7 0⟩
def tOf (s : S8) (k w : Nat) : Nat := ad (ad (ad (ad s.h (turnN s.e 6 11 25)) ((s.e &&& s.f) ^^^ (s.g &&& (4294967295 - s.e)))) k) w
def uOf (s : S8) : Nat := ad (turnN s.a 2 13 22) ((s.a &&& s.b) ^^^ (s.a &&& s.c) ^^^ (s.b &&& s.c))
def S8.step (s : S8) (k w : Nat) : S8 := ⟨ad (tOf s k w) (uOf s), s.a, s.b, s.c, ad s.d (tOf s k w), s.e, s.f, s.g⟩
def rounds (ws : List Nat) : Nat → S8 → S8
  | 0, s => s
  | n + 1, s => (rounds ws n s).step (kL.getD n 0) (ws.getD n 0)
structure S8.ok (s : S8) : Prop where
  a : s.a < 4294967296
  b : s.b < 4294967296
  c : s.c < 4294967296
  d : s.d < 4294967296
  e : s.e < 4294967296
  f : s.f < 4294967296
  g : s.g < 4294967296
  h : s.h < 4294967296
theorem S8.ok.step {s : S8} (o : s.ok) (k w : Nat) : (s.step k w).ok := ⟨ad_lt _ _, o.a, o.b, o.c, ad_lt _ _, o.e, o.f, o.g⟩
theorem S8.of_ok {l : List Nat} (h : Ws l) : (S8.of l).ok := ⟨h.get 0, h.get 1, h.get 2, h.get 3, h.get 4, h.get 5, h.get 6, h.get 7⟩
theorem rounds_ok (ws : List Nat) (n : Nat) {s : S8} (o : s.ok) : (rounds ws n s).ok := by
  induction n with
  | zero => exact o
  | succ n ih => exact ih.step _ _
/-- W of a block. -/
def words (b : List UInt8) : List Nat := (List.range 16).map fun i => num ((b.drop (4 * i)).take 4)
def wNext (l : List Nat) (i : Nat) : Nat := ad (ad (ad (tasN (l.getD (i - 2) 0) 17 19 10) (l.getD (i - 7) 0)) (tasN (l.getD (i - 15) 0) 7 18 3)) (l.getD (i - 16) 0)
def sch (l : List Nat) : Nat → List Nat
  | 0 => l
  | n + 1 => sch l n ++ [wNext (sch l n) (16 + n)]
def schedN (b : List UInt8) : List Nat := sch (words b) 48
theorem words_length (b : List UInt8) : (words b).length = 16 := by simp [words]
theorem sch_length (l : List Nat) (n : Nat) : (sch l n).length = l.length + n := by
  induction n with
  | zero => rfl
  | succ n ih => simp [sch, ih]; omega
theorem words_ws (b : List UInt8) : Ws (words b) := by
  intro x hx
  obtain ⟨i, _, rfl⟩ := List.mem_map.1 hx
  have := num_take_lt (b.drop (4 * i)) 4 4 (Nat.le_refl _)
  omega
theorem sch_ws {l : List Nat} (h : Ws l) (n : Nat) : Ws (sch l n) := by
  induction n with
  | zero => exact h
  | succ n ih => exact ih.append (fun x hx => by simp at hx; subst hx; exact ad_lt _ _)
theorem schedN_length (b : List UInt8) : (schedN b).length = 64 := by rw [schedN, sch_length, words_length]
theorem schedN_ws (b : List UInt8) : Ws (schedN b) := sch_ws (words_ws b) _
def addB (a : List Nat) (b : List UInt8) : List Nat := plus a (rounds (schedN b) 64 (S8.of (plus a firstL))).list
def addedN (l : List UInt8) : Nat → List Nat
  | 0 => List.replicate 8 0
  | n + 1 => addB (addedN l n) ((l.drop (64 * n)).take 64)
theorem addB_length (a : List Nat) (b : List UInt8) (h : a.length = 8) : (addB a b).length = 8 := by rw [addB, plus_length]; exact h; rw [h]; rfl
theorem addedN_length (l : List UInt8) (n : Nat) : (addedN l n).length = 8 := by
  induction n with
  | zero => rfl
  | succ n ih => exact addB_length _ _ ih
theorem addedN_append (l m : List UInt8) (n : Nat) (h : 64 * n ≤ l.length) : addedN (l ++ m) n = addedN l n := by
  induction n with
  | zero => rfl
  | succ n ih =>
    have h1 : ((l ++ m).drop (64 * n)).take 64 = (l.drop (64 * n)).take 64 := by
      rw [List.drop_append_of_le_length (by omega), List.take_append_of_le_length (by rw [List.length_drop]; omega)]
    rw [addedN, addedN, ih (by omega), h1]
/-- What comes behind n bytes. -/
def endL (n : Nat) : List UInt8 := 128 :: (List.replicate ((64 - (n + 9) % 64) % 64) 0 ++ be 8 (8 * n))
theorem endL_length (n : Nat) : (endL n).length = 1 + (64 - (n + 9) % 64) % 64 + 8 := by simp [endL, be_length]; omega
theorem endL_le (n : Nat) : (endL n).length ≤ 72 := by rw [endL_length]; omega
def shaWords (l : List UInt8) : List Nat := plus (addedN l (l.length / 64)) firstL
def shaL (l : List UInt8) : List UInt8 := (shaWords (l ++ endL l.length)).flatMap (be 4)
theorem shaWords_length (l : List UInt8) : (shaWords l).length = 8 := by rw [shaWords, plus_length]; exact addedN_length _ _; rw [addedN_length]; rfl
theorem flat4_length (ws : List Nat) : (ws.flatMap (be 4)).length = 4 * ws.length := by
  induction ws with
  | nil => rfl
  | cons a l ih => rw [List.flatMap_cons, List.length_append, ih, be_length, List.length_cons]; omega
theorem shaL_length (l : List UInt8) : (shaL l).length = 32 := by rw [shaL, flat4_length, shaWords_length]
/-- What is left of a block. -/
def leftL (l : List UInt8) : List UInt8 := l.drop (64 * (l.length / 64)) ++ List.replicate (64 - l.length % 64) 0
theorem leftL_length (l : List UInt8) : (leftL l).length = 64 := by simp [leftL]; omega
/-- The cells of a stream. -/
def cellsS (a : List Nat) (b : List UInt8) (n : Nat) : List Value := cellsW a ++ (cellsB b ++ [.int .u64 (n : Int)])
theorem cellsS_length (a : List Nat) (b : List UInt8) (n : Nat) : (cellsS a b n).length = a.length + b.length + 1 := by simp [cellsS, cellsW_length, cellsB_length]; omega
def St (w : World) (g : Nat) (l : List UInt8) : Prop := Blk w g 146 (cellsS (addedN l (l.length / 64)) (leftL l) l.length).toArray
theorem agg8 : Agg Tryz.prog 144 8 := Agg.of (by kernel_rfl) (by kernel_rfl)
theorem agg64 : Agg Tryz.prog 183 64 := Agg.of (by kernel_rfl) (by kernel_rfl)
theorem aggSt : Agg Tryz.prog 146 73 := Agg.of (by kernel_rfl) (by kernel_rfl)
theorem agg32 : Agg Tryz.prog 25 32 := Agg.of (by kernel_rfl) (by kernel_rfl)
theorem zero8 : (Tryz.prog.info? 144).map (fun i => i.zero) = some (some (.agg (cellsW (List.replicate 8 0)).toArray)) := by kernel_rfl
theorem zero64w : (Tryz.prog.info? 183).map (fun i => i.zero) = some (some (.agg (cellsW (List.replicate 64 0)).toArray)) := by kernel_rfl
theorem zero32 : (Tryz.prog.info? 25).map (fun i => i.zero) = some (some (.agg (cellsB (List.replicate 32 0)).toArray)) := by kernel_rfl
theorem zeroSt : (Tryz.prog.info? 146).map (fun i => i.zero) = some (some (.agg (cellsS (List.replicate 8 0) (List.replicate 64 0) 0).toArray)) := by kernel_rfl
/-- The tables. -/
structure Gl (w : World) : Prop where
  k : ∀ i, i < 64 → w.cell? ⟨2, i, none⟩ = some (.int .u32 (kL.getD i 0 : Nat))
  first : ∀ i, i < 8 → w.cell? ⟨3, i, none⟩ = some (.int .u32 (firstL.getD i 0 : Nat))
theorem number_eq (b0 b1 b2 b3 : UInt8) : bits .or .u32 (bits .or .u32 (bits .or .u32 ((b0.toNat : Int) * 16777216) ((b1.toNat : Int) * 65536)) ((b2.toNat : Int) * 256)) (b3.toNat : Int) = (num [b0, b1, b2, b3] : Nat) := by
  have l0 := b0.toNat_lt
  have l1 := b1.toNat_lt
  have l2 := b2.toNat_lt
  have l3 := b3.toNat_lt
  have e1 := u32_or_nat (b0.toNat * 16777216) (b1.toNat * 65536) (by omega) (by omega)
  rw [nat_join 24 _ _ (by omega) (by omega)] at e1
  have e2 := u32_or_nat (b0.toNat * 16777216 + b1.toNat * 65536) (b2.toNat * 256) (by omega) (by omega)
  rw [nat_join 16 _ _ (by omega) (by omega)] at e2
  have e3 := u32_or_nat (b0.toNat * 16777216 + b1.toNat * 65536 + b2.toNat * 256) b3.toNat (by omega) (by omega)
  rw [nat_join 8 _ _ (by omega) (by omega)] at e3
  simp only [Int.natCast_mul, Int.natCast_add] at e1 e2 e3
  have e4 : num [b0, b1, b2, b3] = b0.toNat * 16777216 + b1.toNat * 65536 + b2.toNat * 256 + b3.toNat := by simp [num]; omega
  rw [e4]
  simp only [Int.natCast_mul, Int.natCast_add]
  refine Eq.trans ?_ e3
  refine congrArg (fun z => bits .or .u32 z (b3.toNat : Int)) ?_
  refine Eq.trans ?_ e2
  exact congrArg (fun z => bits .or .u32 z ((b2.toNat : Int) * 256)) e1
theorem number_any (g off n c : Nat) (b0 b1 b2 b3 : UInt8) (w : World) (h4 : 4 ≤ n) (hn : n ≤ 1000)
    (h0 : w.cell? ⟨g, off, none⟩ = some (.int .u8 (b0.toNat : Int))) (h1 : w.cell? ⟨g, off + 1, none⟩ = some (.int .u8 (b1.toNat : Int)))
    (h2 : w.cell? ⟨g, off + 2, none⟩ = some (.int .u8 (b2.toNat : Int))) (h3 : w.cell? ⟨g, off + 3, none⟩ = some (.int .u8 (b3.toNat : Int))) :
    Calls Tryz.prog 116 #[.slice (some ⟨g, off, none⟩) n c] w fun e w' => e = .returned (.int .u32 (num [b0, b1, b2, b3] : Nat)) ∧ ∃ m, w' = w.drewN m := by
  have l0 := b0.toNat_lt
  have l1 := b1.toNat_lt
  have l2 := b2.toNat_lt
  have l3 := b3.toNat_lt
  go_enter Tryz.func116, Tryz.ntmps116
  go_wp2_with fail
  go_quiet (fail)
  go_wp2
  go_ret
  exact ⟨congrArg (fun z => Ending.returned (.int .u32 z)) (number_eq b0 b1 b2 b3), _, rfl⟩
theorem be4_cells (v : Nat) (h : v < 4294967296) : cellsB (be 4 v) = [.int .u8 ((v : Int) / 16777216), .int .u8 ((v : Int) / 65536 % 256), .int .u8 ((v : Int) / 256 % 256), .int .u8 ((v : Int) % 256)] := by
  simp [cellsB, be, List.range_succ]
  omega
theorem put_any (g off n c : Nat) (v : Nat) (cs : List Value) (t : TypeId) (w : World) (h4 : 4 ≤ n) (hn : n ≤ 1000) (hv : v < 4294967296)
    (hb : Blk w g t cs.toArray) (ho : off + 4 ≤ cs.length) :
    Calls Tryz.prog 106 #[.slice (some ⟨g, off, none⟩) n c, .int .u32 (v : Int)] w fun e w' => e = .returned (.tuple #[]) ∧ Blk w' g t (splice cs off (cellsB (be 4 v))).toArray ∧ Frm (fun k => k = g) w w' := by
  have f0 := hb.frozen off
  have f1 := hb.frozen (off + 1)
  have f2 := hb.frozen (off + 2)
  have f3 := hb.frozen (off + 3)
  have h0 : w.cell? ⟨g, off, none⟩ = some cs[off] := by rw [hb.cell]; simp
  have h1 : w.cell? ⟨g, off + 1, none⟩ = some cs[off + 1] := by rw [hb.cell]; simp
  have h2 : w.cell? ⟨g, off + 2, none⟩ = some cs[off + 2] := by rw [hb.cell]; simp
  have h3 : w.cell? ⟨g, off + 3, none⟩ = some cs[off + 3] := by rw [hb.cell]; simp
  generalize cs[off] = x0 at *
  generalize cs[off + 1] = x1 at *
  generalize cs[off + 2] = x2 at *
  generalize cs[off + 3] = x3 at *
  have HO := hide ho
  clear ho
  go_enter Tryz.func106, Tryz.ntmps106
  go_wp2_with fail
  refine end0 rfl rfl ⟨rfl, ?_, ?_⟩
  · have := ((((hb.set off (.int .u8 ((v : Int) / 16777216))).set (off + 1) (.int .u8 ((v : Int) / 65536 % 256))).set (off + 2) (.int .u8 ((v : Int) / 256 % 256))).set (off + 3) (.int .u8 ((v : Int) % 256)))
    rw [be4_cells v hv, ← set4 _ _ _ _ _ _ HO.out]
    simpa using this
  · exact ((((Frm.setCell _ _ _ (fun k => k = g) rfl).trans (Frm.setCell _ _ _ (fun k => k = g) rfl) (fun _ _ h => h)).trans (Frm.setCell _ _ _ (fun k => k = g) rfl) (fun _ _ h => h)).trans (Frm.setCell _ _ _ (fun k => k = g) rfl) (fun _ _ h => h))
theorem Gl.frm {S : Nat → Prop} {w w' : World} (h : Gl w) (f : Frm S w w') (h0 : ¬ S 2) (h1 : ¬ S 3) : Gl w' := by
  have hc : ∀ (b i : Nat) (v : Value), ¬ S b → w.cell? ⟨b, i, none⟩ = some v → w'.cell? ⟨b, i, none⟩ = some v := by
    intro b i v hb hv
    have := f.block b (World.block_lt_of_cell? w _ hv) hb
    rw [← hv]
    simp only [World.cell?, this]
  exact ⟨fun i hi => hc 2 i _ h0 (h.k i hi), fun i hi => hc 3 i _ h1 (h.first i hi)⟩
structure StateInv (w : World) (g1 g2 : Nat) (a : List Nat) (k : Nat) (wr : World) : Prop where
  blk : Blk wr g2 144 (cellsW (mix (plus a firstL) a k)).toArray
  res : Blk wr g1 144 (cellsW (List.replicate 8 0)).toArray
  gl : Gl wr
  below : Below w.heap.size w wr
set_option maxHeartbeats 1000000 in
set_option maxRecDepth 100000 in
theorem state_any (g : Nat) (a : List Nat) (b : List UInt8) (n : Nat) (w : World) (hG : Gl w) (hb : Blk w g 146 (cellsS a b n).toArray) (ha : a.length = 8) (hg0 : 4 ≤ w.heap.size) :
    Calls Tryz.prog 105 #[.pointer (some ⟨g, 0, none⟩)] w fun e w' => e = .returned (.agg (cellsW (plus a firstL)).toArray) ∧ Below w.heap.size w w' := by
  have hx : ((cellsS a b n).drop 0).take 8 = cellsW a := by rw [cellsS, List.drop_zero, List.take_append_of_le_length (by rw [cellsW_length, ha]; exact Nat.le_refl _), List.take_of_length_le (by rw [cellsW_length, ha]; exact Nat.le_refl _)]
  have HX := hide hx
  clear hx
  have hn : 0 + 8 ≤ (cellsS a b n).length := by rw [cellsS_length, ha]; omega
  go_enter Tryz.func105, Tryz.ntmps105
  go_wp2_with (first
    | (with_reducible refine wpl_alloca (op := ⟨some 2, _, _, _, _, _⟩) rfl _ rfl _ zero8 ?_; intro g1 w1 hB1 hs1 hF1; have hb1 := hb.frm hF1 (fun h => h))
    | (with_reducible refine wpl_loada (op := ⟨some 8, _, _, _, _, _⟩) agg8 rfl _ rfl g 0 rfl _ _ _ hb1 HX.out hn ?_)
    | (with_reducible refine wpl_alloca (op := ⟨some 3, _, _, _, _, _⟩) rfl _ rfl _ zero8 ?_; intro g2 w2 hB2 hs2 hF2)
    | (with_reducible refine wpl_storea agg8 rfl (.tmp 3) (.tmp 8) rfl g2 (cellsW a) rfl rfl _ _ hB2 (by rw [cellsW_length, ha]) (by simp [cellsW]) (cellsW_one a) ?_; intro w3 hB3 hF3))
  have hp : (plus a firstL).length = a.length := plus_length _ _ (by rw [ha]; rfl)
  have hne : g1 ≠ g2 := by have := hB1.lt; omega
  have hst : StateInv w g1 g2 a 0 w3 := by
    have f12 : Frm (fun _ => False) w w2 := hF1.trans hF2 (fun _ _ h => h)
    have f13 : Frm (fun k => k = g2) w w3 := (f12.mono (T := fun k => k = g2) (fun _ _ h => h.elim)).trans hF3 (fun _ _ h => h)
    have hsz : w.heap.size < w1.heap.size := by have := hB1.lt; omega
    refine ⟨by rw [mix_zero]; exact hB3, (hB1.frm hF2 (fun h => h)).frm hF3 hne, hG.frm f13 (by omega) (by omega), f13.below (Nat.le_refl _) (by intro k hk; omega)⟩
  have hs12 : w.heap.size ≤ g2 := by have := hB1.lt; omega
  clear hb1 hB1 hB2 hB3 hF1 hF2 hF3 hb hn HX hG
  go_loopw [9] (fun i wr => ∃ k : Nat, k ≤ 8 ∧ i = .int .i64 k ∧ StateInv w g1 g2 a k wr) (fun i _ => 8 - (intOf i).toNat)
  case atStart => exact ⟨0, by omega, rfl, hst⟩
  case round =>
    obtain ⟨k, hk, rfl, hi⟩ := hrel
    by_cases hlt : k < 8
    · obtain ⟨x, hx⟩ : ∃ x, x = a.getD k 0 := ⟨_, rfl⟩
      obtain ⟨y, hy⟩ : ∃ y, y = firstL.getD k 0 := ⟨_, rfl⟩
      have hc1 : wr.cell? ⟨g2, k, none⟩ = some (.int .u32 (x : Nat)) := by
        rw [hi.blk.cell, hx]
        simp only [List.getElem?_toArray]
        rw [cellsW_get, mix_at _ _ _ hp (by omega), ← cellsW_get, cellsW_at _ _ (by omega)]
      have hf1 := hi.blk.frozen k
      have hc2 := hi.gl.first k hlt
      rw [← hy] at hc2
      have hadd : IntKind.u32.wrap ((x : Int) + (y : Int)) = (ad x y : Nat) := by rw [IntKind.wrap_u32']; exact ad_int _ _
      have hset := mix_set (plus a firstL) a k _ hp (by omega) (plus_at a firstL k (by omega) (by show k < 8; exact hlt))
      rw [← hx, ← hy] at hset
      have HS := hide hset
      clear hset
      have fin : StateInv w g1 g2 a (k + 1) (wr.drew.setCell ⟨g2, k, none⟩ (.int .u32 (ad x y : Nat))) := by
        have hb := hi.blk.set k (.int .u32 (ad x y : Nat))
        rw [List.setIfInBounds_toArray, cellsW_set, HS.out] at hb
        have fr : Frm (fun i => i = g2) wr (wr.drew.setCell ⟨g2, k, none⟩ (.int .u32 (ad x y : Nat))) := ((Frm.refl _ _).drew).trans (Frm.setCell _ _ _ (fun i => i = g2) rfl) (fun _ _ h => h)
        exact ⟨hb, hi.res.frm fr hne, hi.gl.frm fr (by omega) (by omega), below_frm hi.below fr hi.below.size (by intro i hi; omega)⟩
      have FIN := hide fin
      clear fin hx hy
      go_wp2_with fail
      go_still_tail 8, (by kernel_rfl)
      have hc1' : wr.drew.cell? ⟨g2, k, none⟩ = some (.int .u32 (x : Nat)) := hc1
      have hf1' : wr.drew.frozen? ⟨g2, k, none⟩ = false := hf1
      change wpList _ _ _ _ _ wr.drew
      go_wp2
      go_roundw
      case rel => exact ⟨k + 1, by omega, by go_num, FIN.out⟩
      case measure => simp [intOf]; omega
    · obtain rfl : k = 8 := by omega
      have hb := hi.blk
      rw [mix_all _ _ _ hp (by omega)] at hb
      have hl : (cellsW (plus a firstL)).length = 8 := by rw [cellsW_length, hp, ha]
      have HL := hide hl
      clear hl
      have hx0 : ((cellsW (plus a firstL)).drop 0).take 8 = cellsW (plus a firstL) := by rw [List.drop_zero, List.take_of_length_le (by rw [HL.out]; exact Nat.le_refl _)]
      have HX := hide hx0
      clear hx0
      have hres := hi.res
      have hbel := hi.below
      go_wp2_with (first
        | (with_reducible refine wpl_loada (op := ⟨some 21, _, _, _, _, _⟩) agg8 rfl _ rfl g2 0 rfl _ _ _ hb HX.out (by rw [HL.out]; exact Nat.le_refl _) ?_)
        | (with_reducible refine wpl_storea agg8 rfl (.tmp 2) (.tmp 21) rfl g1 (cellsW (plus a firstL)) rfl rfl _ _ hres HL.out (by simp [cellsW]) (cellsW_one _) ?_; intro w4 hB4 hF4))
      refine ret_agg agg8 rfl rfl g1 _ _ rfl hB4 HL.out ⟨rfl, below_frm hbel hF4 hbel.size (by intro i hi; omega)⟩
theorem sch_pre (l : List Nat) (n m j : Nat) (h : n ≤ m) (hj : j < l.length + n) : (sch l m)[j]? = (sch l n)[j]? := by
  induction m with
  | zero => obtain rfl : n = 0 := by omega
            rfl
  | succ m ih =>
    rcases Nat.lt_or_ge m n with h' | h'
    · obtain rfl : n = m + 1 := by omega
      rfl
    · rw [sch, List.getElem?_append_left (by rw [sch_length]; omega), ih h']
theorem wNext_congr (l m : List Nat) (i : Nat) (hi : 16 ≤ i) (h : ∀ j, j < i → l[j]? = m[j]?) : wNext l i = wNext m i := by
  unfold wNext
  simp only [List.getD_eq_getElem?_getD]
  rw [h (i - 2) (by omega), h (i - 7) (by omega), h (i - 15) (by omega), h (i - 16) (by omega)]
theorem sch_at (l : List Nat) (N n : Nat) (hl : l.length = 16) (h : n < N) : (sch l N)[16 + n]? = some (wNext (sch l N) (16 + n)) := by
  rw [sch_pre l (n + 1) N (16 + n) (by omega) (by omega), sch, List.getElem?_append_right (by rw [sch_length]; omega), sch_length, hl, Nat.sub_self, List.getElem?_cons_zero]
  exact congrArg some (wNext_congr _ _ _ (by omega) (fun j hj => (sch_pre l n N j (by omega) (by omega)).symm))
theorem schedN_at (b : List UInt8) (i : Nat) (h1 : 16 ≤ i) (h2 : i < 64) : (schedN b)[i]? = some (wNext (schedN b) i) := by
  obtain ⟨n, rfl⟩ : ∃ n, i = 16 + n := ⟨i - 16, by omega⟩
  exact sch_at (words b) 48 n (words_length b) (by omega)
theorem schedN_low (b : List UInt8) (i : Nat) (h : i < 16) : (schedN b)[i]? = (words b)[i]? := sch_pre (words b) 0 48 i (by omega) (by rw [words_length]; omega)
/-- The first sixteen words, and noughts. -/
def low16 (b : List UInt8) : List Nat := words b ++ List.replicate 48 0
theorem low16_length (b : List UInt8) : (low16 b).length = 64 := by simp [low16, words_length]
theorem low16_mix (b : List UInt8) : mix (low16 b) (List.replicate 64 0) 16 = mix (schedN b) (low16 b) 16 := by
  have h1 : (low16 b).take 16 = words b := by rw [low16, List.take_append_of_le_length (by rw [words_length]; exact Nat.le_refl _), List.take_of_length_le (by rw [words_length]; exact Nat.le_refl _)]
  have h2 : (schedN b).take 16 = words b := by
    apply List.ext_getElem?
    intro i
    rw [List.getElem?_take]
    split
    · exact schedN_low b i (by assumption)
    · rw [List.getElem?_eq_none (by rw [words_length]; omega)]
  have h3 : (low16 b).drop 16 = List.replicate 48 0 := by rw [low16, List.drop_append_of_le_length (by rw [words_length]; exact Nat.le_refl _), List.drop_eq_nil_of_le (by rw [words_length]; exact Nat.le_refl _), List.nil_append]
  rw [mix, mix, h1, h2, h3]
  rfl
theorem low16_at (b : List UInt8) (k : Nat) (h : k < 16) : (low16 b)[k]? = some (num ((b.drop (4 * k)).take 4)) := by
  rw [low16, List.getElem?_append_left (by rw [words_length]; exact h)]
  simp [words, h]
/-- A byte of a stream's block. -/
theorem cellsS_left (a : List Nat) (b : List UInt8) (n i : Nat) (ha : a.length = 8) (hi : i < b.length) : (cellsS a b n)[8 + i]? = some (.int .u8 ((b.getD i 0).toNat : Int)) := by
  rw [cellsS, List.getElem?_append_right (by rw [cellsW_length]; omega), cellsW_length, ha, List.getElem?_append_left (by rw [cellsB_length]; omega), cellsB_get]
  rw [show 8 + i - 8 = i by omega, List.getElem?_eq_getElem hi]
  simp [List.getD_eq_getElem?_getD, List.getElem?_eq_getElem hi]
structure SchedInv (w : World) (g g1 g2 : Nat) (cs : List Value) (l : List Nat) (wr : World) : Prop where
  src : Blk wr g 146 cs.toArray
  blk : Blk wr g2 183 (cellsW l).toArray
  res : Blk wr g1 183 (cellsW (List.replicate 64 0)).toArray
  below : Below w.heap.size w wr
theorem SchedInv.set {w : World} {g g1 g2 : Nat} {cs : List Value} {l : List Nat} {wr : World} (h : SchedInv w g g1 g2 cs l wr) (h1 : g ≠ g2) (h2 : g1 ≠ g2) (h3 : w.heap.size ≤ g2) (q k x : Nat) : SchedInv w g g1 g2 cs (l.set k x) ((wr.drewN q).setCell ⟨g2, k, none⟩ (.int .u32 (x : Int))) := by
  have hb := Blk.set (w := wr.drewN q) h.blk k (.int .u32 (x : Int))
  rw [List.setIfInBounds_toArray, cellsW_set] at hb
  have fr : Frm (fun i => i = g2) wr ((wr.drewN q).setCell ⟨g2, k, none⟩ (.int .u32 (x : Int))) := ((Frm.refl _ _).drewN q).trans (Frm.setCell _ _ _ (fun i => i = g2) rfl) (fun _ _ h => h)
  exact ⟨h.src.frm fr h1, hb, h.res.frm fr h2, below_frm h.below fr h.below.size (by intro i hi; omega)⟩
set_option maxRecDepth 100000 in
set_option maxHeartbeats 4000000 in
theorem schedule_any (g : Nat) (a : List Nat) (b : List UInt8) (n : Nat) (w : World) (hb : Blk w g 146 (cellsS a b n).toArray) (ha : a.length = 8) (hbl : b.length = 64) :
    Calls Tryz.prog 113 #[.pointer (some ⟨g, 8, none⟩)] w fun e w' => e = .returned (.agg (cellsW (schedN b)).toArray) ∧ Below w.heap.size w w' := by
  have hlt := hb.lt
  go_enter Tryz.func113, Tryz.ntmps113
  go_wp2_with (first
    | (with_reducible refine wpl_alloca (op := ⟨some 2, _, _, _, _, _⟩) rfl _ rfl _ zero64w ?_; intro g1 w1 hB1 hs1 hF1)
    | (with_reducible refine wpl_alloca (op := ⟨some 3, _, _, _, _, _⟩) rfl _ rfl _ zero64w ?_; intro g2 w2 hB2 hs2 hF2))
  have hne1 : g ≠ g2 := by have := hB1.lt; omega
  have hne2 : g1 ≠ g2 := by have := hB1.lt; omega
  have hs3 : w.heap.size ≤ g2 := by have := hB1.lt; omega
  have hs4 : w.heap.size ≤ g1 := hs1
  have hst : SchedInv w g g1 g2 (cellsS a b n) (List.replicate 64 0) w2 := by
    have f12 : Frm (fun _ => False) w w2 := hF1.trans hF2 (fun _ _ h => h)
    exact ⟨hb.frm f12 (fun h => h), hB2, hB1.frm hF2 (fun h => h), f12.below (Nat.le_refl _) (fun _ h => h.elim)⟩
  have Hbl := hide hbl
  have Hal := hide ha
  clear hb hB1 hB2 hF1 hF2 hs1 hs2 ha hbl
  go_loopw [6] (fun i wr => ∃ k : Nat, k ≤ 16 ∧ i = .int .i64 k ∧ SchedInv w g g1 g2 (cellsS a b n) (mix (low16 b) (List.replicate 64 0) k) wr) (fun i _ => 16 - (intOf i).toNat)
  case atStart => exact ⟨0, by omega, rfl, by rw [mix_zero]; exact hst⟩
  case round =>
    obtain ⟨k, hk, rfl, hi⟩ := hrel
    by_cases hlt : k < 16
    · have hc : ∀ j, 4 * k + j < 64 → wr.cell? ⟨g, 8 + (4 * k + j), none⟩ = some (.int .u8 ((b.getD (4 * k + j) 0).toNat : Int)) := by
        intro j hj
        rw [hi.src.cell]
        simp only [List.getElem?_toArray]
        exact cellsS_left a b n _ Hal.out (by rw [Hbl.out]; exact hj)
      have h0 := hc 0 (by omega)
      have h1 := hc 1 (by omega)
      have h2 := hc 2 (by omega)
      have h3 := hc 3 (by omega)
      clear hc
      have hset := mix_set (low16 b) (List.replicate 64 0) k _ (by rw [low16_length]; rfl) (by rw [List.length_replicate]; omega) (low16_at b k hlt)
      rw [drop_take4 b (4 * k) (by rw [Hbl.out]; omega)] at hset
      simp only [Nat.add_zero, ← Nat.add_assoc] at h0 h1 h2 h3
      generalize b.getD (4 * k) 0 = b0 at *
      generalize b.getD (4 * k + 1) 0 = b1 at *
      generalize b.getD (4 * k + 2) 0 = b2 at *
      generalize b.getD (4 * k + 3) 0 = b3 at *
      have fin : ∀ q, SchedInv w g g1 g2 (cellsS a b n) (mix (low16 b) (List.replicate 64 0) (k + 1)) ((wr.drewN q).setCell ⟨g2, k, none⟩ (.int .u32 (num [b0, b1, b2, b3] : Nat))) := by
        intro q
        have := hi.set hne1 hne2 hs3 q k (num [b0, b1, b2, b3])
        rwa [hset] at this
      have FIN := hide fin
      have hcell : (wr.cell? ⟨g2, k, none⟩).isSome = true := by
        rw [hi.blk.cell]
        have h64 : (cellsW (mix (low16 b) (List.replicate 64 0) k)).length = 64 := by rw [cellsW_length, mix_length _ _ _ (by rw [low16_length]; rfl)]; rfl
        rw [List.getElem?_toArray, List.getElem?_eq_getElem (by rw [h64]; omega)]
        rfl
      obtain ⟨vo, hvo⟩ := Option.isSome_iff_exists.1 hcell
      have hfr := hi.blk.frozen k
      have Q1 : Hid (∀ q, (wr.drewN q).cell? ⟨g2, k, none⟩ = some vo ∧ (wr.drewN q).frozen? ⟨g2, k, none⟩ = false) := fun q => ⟨hvo, hfr⟩
      have H0 := hide h0
      have H1 := hide h1
      have H2 := hide h2
      have H3 := hide h3
      clear fin hset hcell hvo hfr h0 h1 h2 h3
      have hsl : ∀ w, Sem.run Tryz.prog (Instr.sliceAt 84 (.pointer (some ⟨g, 8, none⟩)) (some (.int .i64 (4 * (k : Int)))) none none) w = .ok (.slice (some ⟨g, 8 + 4 * k, none⟩) (64 - 4 * k) (64 - 4 * k)) w := fun w => by
        have := run_slice_arr (P := Tryz.prog) (t := 84) (e := 5) (N := 64) (by kernel_rfl) (by kernel_rfl) g 8 .i64 (4 * k) (by omega) w
        simpa using this
      go_wp2_with fail
      refine (number_any g (8 + 4 * k) (64 - 4 * k) (64 - 4 * k) b0 b1 b2 b3 wr (by omega) (by omega) H0.out H1.out H2.out H3.out).mono ?_
      rintro e w4 ⟨rfl, q, rfl⟩
      obtain ⟨q1, q2⟩ := Q1.out q
      have FQ := hide (FIN.out q)
      generalize num [b0, b1, b2, b3] = nn at *
      go_wp2_with fail
      go_roundw
      case rel => exact ⟨k + 1, by omega, by go_num, FQ.out⟩
      case measure => simp [intOf]; omega
    · obtain rfl : k = 16 := by omega
      rw [low16_mix] at hi
      go_wp2_with fail
      go_loopw [5] (fun i wr => ∃ k : Nat, 16 ≤ k ∧ k ≤ 64 ∧ i = .int .i64 k ∧ SchedInv w g g1 g2 (cellsS a b n) (mix (schedN b) (low16 b) k) wr) (fun i _ => 64 - (intOf i).toNat)
      case atStart => exact ⟨16, by omega, by omega, rfl, hi⟩
      case round =>
        clear hi
        obtain ⟨k, hk1, hk2, rfl, hi⟩ := hrel
        have hlen : (schedN b).length = (low16 b).length := by rw [schedN_length, low16_length]
        by_cases hlt : k < 64
        · have hc : ∀ j, j < k → wr.cell? ⟨g2, j, none⟩ = some (.int .u32 ((schedN b).getD j 0 : Nat)) := by
            intro j hj
            rw [hi.blk.cell, List.getElem?_toArray, cellsW_get, mix_low _ _ _ _ hlen hj (by rw [low16_length]; omega), ← cellsW_get, cellsW_at _ _ (by rw [schedN_length]; omega)]
          have h2 := hc (k - 2) (by omega)
          have h7 := hc (k - 7) (by omega)
          have h15 := hc (k - 15) (by omega)
          have h16 := hc (k - 16) (by omega)
          clear hc
          have hset := mix_set (schedN b) (low16 b) k _ hlen (by rw [low16_length]; omega) (schedN_at b k hk1 hlt)
          unfold wNext at hset
          have l2 := (schedN_ws b).get (k - 2)
          have l15 := (schedN_ws b).get (k - 15)
          generalize (schedN b).getD (k - 2) 0 = x2 at *
          generalize (schedN b).getD (k - 7) 0 = x7 at *
          generalize (schedN b).getD (k - 15) 0 = x15 at *
          generalize (schedN b).getD (k - 16) 0 = x16 at *
          have hcell : (wr.cell? ⟨g2, k, none⟩).isSome = true := by
            have h64 : (cellsW (mix (schedN b) (low16 b) k)).length = 64 := by rw [cellsW_length, mix_length _ _ _ hlen, low16_length]
            rw [hi.blk.cell, List.getElem?_toArray, List.getElem?_eq_getElem (by rw [h64]; omega)]
            rfl
          obtain ⟨vo, hvo⟩ := Option.isSome_iff_exists.1 hcell
          have hfr := hi.blk.frozen k
          have e1 : IntKind.u32.wrap (((tasN x2 17 19 10 : Nat) : Int) + (x7 : Int)) = (ad (tasN x2 17 19 10) x7 : Nat) := by rw [IntKind.wrap_u32']; exact ad_int _ _
          have e2 : IntKind.u32.wrap (((ad (tasN x2 17 19 10) x7 : Nat) : Int) + ((tasN x15 7 18 3 : Nat) : Int)) = (ad (ad (tasN x2 17 19 10) x7) (tasN x15 7 18 3) : Nat) := by rw [IntKind.wrap_u32']; exact ad_int _ _
          have e3 : IntKind.u32.wrap (((ad (ad (tasN x2 17 19 10) x7) (tasN x15 7 18 3) : Nat) : Int) + (x16 : Int)) = (ad (ad (ad (tasN x2 17 19 10) x7) (tasN x15 7 18 3)) x16 : Nat) := by rw [IntKind.wrap_u32']; exact ad_int _ _
          have fin : ∀ q, SchedInv w g g1 g2 (cellsS a b n) (mix (schedN b) (low16 b) (k + 1)) ((wr.drewN q).setCell ⟨g2, k, none⟩ (.int .u32 (ad (ad (ad (tasN x2 17 19 10) x7) (tasN x15 7 18 3)) x16 : Nat))) := by
            intro q
            have := hi.set hne1 hne2 hs3 q k (ad (ad (ad (tasN x2 17 19 10) x7) (tasN x15 7 18 3)) x16)
            rwa [hset] at this
          have FIN := hide fin
          have HE := hide hset
          have HD := hide (show (wr.cell? ⟨g2, k - 2, none⟩ = some (.int .u32 (x2 : Nat)) ∧ wr.cell? ⟨g2, k - 7, none⟩ = some (.int .u32 (x7 : Nat)) ∧ wr.cell? ⟨g2, k - 15, none⟩ = some (.int .u32 (x15 : Nat)) ∧ wr.cell? ⟨g2, k - 16, none⟩ = some (.int .u32 (x16 : Nat))) from ⟨h2, h7, h15, h16⟩)
          have HF := hide (show wr.cell? ⟨g2, k, none⟩ = some vo ∧ wr.frozen? ⟨g2, k, none⟩ = false from ⟨hvo, hfr⟩)
          have hL := hlen
          clear fin hset hcell hvo hfr h2 h7 h15 h16 hlen hL
          have i2 : IntKind.i64.wrap ((k : Int) - 2) = (k : Int) - 2 := IntWalk.i64_in _ (by omega)
          have i7 : IntKind.i64.wrap ((k : Int) - 7) = (k : Int) - 7 := IntWalk.i64_in _ (by omega)
          have i15 : IntKind.i64.wrap ((k : Int) - 15) = (k : Int) - 15 := IntWalk.i64_in _ (by omega)
          have i16 : IntKind.i64.wrap ((k : Int) - 16) = (k : Int) - 16 := IntWalk.i64_in _ (by omega)
          have j2 : ((k : Int) - 2).toNat = k - 2 := by omega
          have j7 : ((k : Int) - 7).toNat = k - 7 := by omega
          have j15 : ((k : Int) - 15).toNat = k - 15 := by omega
          have j16 : ((k : Int) - 16).toNat = k - 16 := by omega
          have a2 : (0 : Int) ≤ (k : Int) - 2 := by omega
          have a7 : (0 : Int) ≤ (k : Int) - 7 := by omega
          have a15 : (0 : Int) ≤ (k : Int) - 15 := by omega
          have a16 : (0 : Int) ≤ (k : Int) - 16 := by omega
          have c2 : (2 : Int) ≤ (k : Int) := by omega
          have c7 : (7 : Int) ≤ (k : Int) := by omega
          have c15 : (15 : Int) ≤ (k : Int) := by omega
          have c16 : (16 : Int) ≤ (k : Int) := by omega
          have b2 : (k : Int) - 2 < 64 := by omega
          have b7 : (k : Int) - 7 < 64 := by omega
          have b15 : (k : Int) - 15 < 64 := by omega
          have b16 : (k : Int) - 16 < 64 := by omega
          go_wp2_with fail
          refine wp_region_held_drew (S := fun W => W.cell? ⟨g2, k - 2, none⟩ = some (.int .u32 (x2 : Nat)) ∧ W.cell? ⟨g2, k - 7, none⟩ = some (.int .u32 (x7 : Nat)) ∧ W.cell? ⟨g2, k - 15, none⟩ = some (.int .u32 (x15 : Nat)) ∧ W.cell? ⟨g2, k - 16, none⟩ = some (.int .u32 (x16 : Nat))) (by kernel_rfl) (HD.out) ?_
          intro hHeld
          refine tkH 0 (v := ?v1) rfl ?hy1 ?rest1
          case hy1 => (intro w hSw; (try dsimp only at hSw); go_simp; try with_reducible rfl)
          try simp only [Act.put, PTs]
          refine tkH 1 (v := ?v2) rfl ?hy2 ?rest2
          case hy2 => (intro w hSw; (try dsimp only at hSw); go_simp; try with_reducible rfl)
          try simp only [Act.put, PTs]
          refine tkH 2 (v := ?v3) rfl ?hy3 ?rest3
          case hy3 => (intro w hSw; (try dsimp only at hSw); go_simp; try with_reducible rfl)
          try simp only [Act.put, PTs]
          refine tkH 3 (v := ?v4) rfl ?hy4 ?rest4
          case hy4 => (intro w hSw; (try dsimp only at hSw); go_simp; try with_reducible rfl)
          try simp only [Act.put, PTs]
          refine tkH 4 (v := ?v5) rfl ?hy5 ?rest5
          case hy5 => (intro w hSw; (try dsimp only at hSw); go_simp; try with_reducible rfl)
          try simp only [Act.put, PTs]
          refine tkH 6 (v := ?v6) rfl ?hy6 ?rest6
          case hy6 => (intro w hSw; (try dsimp only at hSw); go_simp; try with_reducible rfl)
          try simp only [Act.put, PTs]
          refine tkH 7 (v := ?v7) rfl ?hy7 ?rest7
          case hy7 => (intro w hSw; (try dsimp only at hSw); go_simp; try with_reducible rfl)
          try simp only [Act.put, PTs]
          refine tkH 8 (v := ?v8) rfl ?hy8 ?rest8
          case hy8 => (intro w hSw; (try dsimp only at hSw); go_simp; try with_reducible rfl)
          try simp only [Act.put, PTs]
          refine tkH 9 (v := ?v9) rfl ?hy9 ?rest9
          case hy9 => (intro w hSw; (try dsimp only at hSw); go_simp; try with_reducible rfl)
          try simp only [Act.put, PTs]
          refine tkH 11 (v := ?v10) rfl ?hy10 ?rest10
          case hy10 => (intro w hSw; (try dsimp only at hSw); go_simp; try with_reducible rfl)
          try simp only [Act.put, PTs]
          refine tkH 12 (v := ?v11) rfl ?hy11 ?rest11
          case hy11 => (intro w hSw; (try dsimp only at hSw); go_simp; try with_reducible rfl)
          try simp only [Act.put, PTs]
          refine tkH 13 (v := ?v12) rfl ?hy12 ?rest12
          case hy12 => (intro w hSw; (try dsimp only at hSw); go_simp; try with_reducible rfl)
          try simp only [Act.put, PTs]
          refine tkH 14 (v := ?v13) rfl ?hy13 ?rest13
          case hy13 => (intro w hSw; (try dsimp only at hSw); go_simp; try with_reducible rfl)
          try simp only [Act.put, PTs]
          refine tkH 17 (v := ?v14) rfl ?hy14 ?rest14
          case hy14 => (intro w hSw; (try dsimp only at hSw); go_simp; try with_reducible rfl)
          try simp only [Act.put, PTs]
          refine tkH 18 (v := ?v15) rfl ?hy15 ?rest15
          case hy15 => (intro w hSw; (try dsimp only at hSw); go_simp; try with_reducible rfl)
          try simp only [Act.put, PTs]
          refine tkH 19 (v := ?v16) rfl ?hy16 ?rest16
          case hy16 => (intro w hSw; (try dsimp only at hSw); go_simp; try with_reducible rfl)
          try simp only [Act.put, PTs]
          refine tkH 20 (v := ?v17) rfl ?hy17 ?rest17
          case hy17 => (intro w hSw; (try dsimp only at hSw); go_simp; try with_reducible rfl)
          try simp only [Act.put, PTs]
          refine rdH 5 rfl (by kernel_rfl) (fun K hK => ?_)
          go_simp
          refine (tas_any x2 17 19 10 _ l2 (by decide) (by decide) (by decide) (by decide) (by decide) (by decide)).mono ?_
          rintro e w5 ⟨rfl, qw5, rfl⟩
          refine hK.out _ _ (HD.out) (fun hHeld => ?_)
          clear hK K
          refine tkH 10 (v := ?v18) rfl ?hy18 ?rest18
          case hy18 => (intro w hSw; (try dsimp only at hSw); go_simp; try with_reducible rfl)
          try simp only [Act.put, PTs]
          refine rdH 15 rfl (by kernel_rfl) (fun K hK => ?_)
          go_simp
          refine (tas_any x15 7 18 3 _ l15 (by decide) (by decide) (by decide) (by decide) (by decide) (by decide)).mono ?_
          rintro e w6 ⟨rfl, qw6, rfl⟩
          refine hK.out _ _ (HD.out) (fun hHeld => ?_)
          clear hK K
          refine tkH 16 (v := ?v19) rfl ?hy19 ?rest19
          case hy19 => (intro w hSw; (try dsimp only at hSw); go_simp; try with_reducible rfl)
          try simp only [Act.put, PTs]
          refine tkH 21 (v := ?v20) rfl ?hy20 ?rest20
          case hy20 => (intro w hSw; (try dsimp only at hSw); go_simp; try with_reducible rfl)
          try simp only [Act.put, PTs]
          refine tkH 22 (v := ?v21) rfl ?hy21 ?rest21
          case hy21 => (intro w hSw; (try dsimp only at hSw); go_simp; try with_reducible rfl)
          try simp only [Act.put, PTs]
          obtain ⟨hvo, hfr⟩ := HF.out
          refine rdH 23 rfl (by kernel_rfl) (fun K hK => ?_)
          go_simp
          refine hK.out _ _ (⟨(cell_set_ne _ _ _ _ _ (by omega)).trans HD.out.1, (cell_set_ne _ _ _ _ _ (by omega)).trans HD.out.2.1, (cell_set_ne _ _ _ _ _ (by omega)).trans HD.out.2.2.1, (cell_set_ne _ _ _ _ _ (by omega)).trans HD.out.2.2.2⟩) (fun hHeld => ?_)
          clear hK K
          refine wpAnyH_done (by kernel_rfl) ?_ _
          have FQ := hide (FIN.out (1 + qw5 + qw6))
          go_wp2
          go_roundw
          case rel => first | exact ⟨k + 1, by omega, by omega, by go_num, FQ.out⟩ | ((repeat apply Exists.intro); exact ⟨⟨k + 1, by omega, by omega, by go_num, FQ.out⟩, rfl⟩)
          case measure => simp [intOf]; omega
        · obtain rfl : k = 64 := by omega
          have hb := hi.blk
          rw [mix_all _ _ _ hlen (by rw [low16_length]; omega)] at hb
          have hl : (cellsW (schedN b)).length = 64 := by rw [cellsW_length, schedN_length]
          have HL := hide hl
          clear hl hlen
          have hx0 : ((cellsW (schedN b)).drop 0).take 64 = cellsW (schedN b) := by rw [List.drop_zero, List.take_of_length_le (by rw [HL.out]; exact Nat.le_refl _)]
          have HX := hide hx0
          clear hx0
          have hres := hi.res
          have hbel := hi.below
          go_wp2_with (first
            | (with_reducible refine wpl_loada (op := ⟨some 45, _, _, _, _, _⟩) agg64 rfl _ rfl g2 0 rfl _ _ _ hb HX.out (by rw [HL.out]; exact Nat.le_refl _) ?_)
            | (with_reducible refine wpl_storea agg64 rfl (.tmp 2) (.tmp 45) rfl g1 (cellsW (schedN b)) rfl rfl _ _ hres HL.out (by simp [cellsW]) (cellsW_one _) ?_; intro w4 hB4 hF4))
          refine ret_agg agg64 rfl rfl g1 _ _ rfl hB4 HL.out ⟨rfl, below_frm hbel hF4 hbel.size (by intro i hi; omega)⟩
theorem index8 (L : List Nat) (k : Nat) (hk : k < 8) (hL : L.length = 8) (w : World) : Sem.run Tryz.prog (Instr.index 144 (.agg (cellsW L).toArray) (.int .i64 (k : Int))) w = .ok (.int .u32 (L.getD k 0 : Nat)) w :=
  run_index_agg (N := 8) (e := 28) (ik := .u32) (by kernel_rfl) (by kernel_rfl) (by kernel_rfl) _ k _ hk (cellsW_at L k (by omega)) w
theorem cellsS_set (a : List Nat) (b : List UInt8) (n k x : Nat) (hk : k < a.length) : (cellsS a b n).set k (.int .u32 (x : Int)) = cellsS (a.set k x) b n := by
  rw [cellsS, cellsS, List.set_append_left _ _ (by rw [cellsW_length]; exact hk), cellsW_set]
theorem cellsS_word (a : List Nat) (b : List UInt8) (n k : Nat) (hk : k < a.length) : (cellsS a b n)[k]? = some (.int .u32 (a.getD k 0 : Nat)) := by
  rw [cellsS, List.getElem?_append_left (by rw [cellsW_length]; exact hk), cellsW_at _ _ hk]
structure AddInv2 (w : World) (g : Nat) (a : List Nat) (b : List UInt8) (n : Nat) (wr : World) : Prop where
  src : Blk wr g 146 (cellsS a b n).toArray
  frm : Frm (fun k => k = g) w wr
theorem AddInv2.set {w : World} {g : Nat} {a : List Nat} {b : List UInt8} {n : Nat} {wr : World} (h : AddInv2 w g a b n wr) (k x : Nat) (hk : k < a.length) : AddInv2 w g (a.set k x) b n (wr.drew.setCell ⟨g, k, none⟩ (.int .u32 (x : Int))) := by
  have hb := Blk.set (w := wr.drew) h.src k (.int .u32 (x : Int))
  rw [List.setIfInBounds_toArray, cellsS_set _ _ _ _ _ hk] at hb
  exact ⟨hb, h.frm.drew.trans (Frm.setCell _ _ _ (fun i => i = g) rfl) (fun _ _ h => h)⟩
theorem Gl.drewN {w : World} (h : Gl w) (n : Nat) : Gl (w.drewN n) := ⟨h.k, h.first⟩
theorem Gl.drew {w : World} (h : Gl w) : Gl w.drew := ⟨h.k, h.first⟩
structure AddInv (w : World) (g g2 : Nat) (cs : List Value) (W : List Nat) (wr : World) : Prop where
  src : Blk wr g 146 cs.toArray
  wb : Blk wr g2 183 (cellsW W).toArray
  gl : Gl wr
  frm : Frm (fun k => k = g) w wr
set_option maxHeartbeats 4000000 in
set_option maxRecDepth 100000 in
theorem addBlock_any (g : Nat) (a : List Nat) (b : List UInt8) (n : Nat) (w : World) (hG : Gl w) (hb : Blk w g 146 (cellsS a b n).toArray) (ha : a.length = 8) (hbl : b.length = 64) (hg2 : 4 ≤ g) :
    Calls Tryz.prog 103 #[.pointer (some ⟨g, 0, none⟩)] w fun e w' => e = .returned (.tuple #[]) ∧ Blk w' g 146 (cellsS (addB a b) b n).toArray ∧ Frm (fun k => k = g) w w' := by
  have hlt := hb.lt
  go_enter Tryz.func103, Tryz.ntmps103
  go_wp2_with fail
  refine (schedule_any g a b n w hb ha hbl).mono ?_
  rintro e w1 ⟨rfl, hbl1⟩
  have hF1 : Frm (fun _ => False) w w1 := Frm.of_below hbl1
  have hb1 := hb.frm hF1 (fun h => h)
  have HWl : Hid ((cellsW (schedN b)).length = 64) := by rw [cellsW_length, schedN_length]; trivial
  have HWs : Hid (Ws (schedN b)) := schedN_ws b
  have HWn : Hid ((schedN b).length = 64) := schedN_length b
  have HAD : Hid (addB a b = plus a (rounds (schedN b) 64 (S8.of (plus a firstL))).list) := rfl
  generalize schedN b = W at *
  go_wp2_with (first
    | (with_reducible refine wpl_alloca (op := ⟨some 2, _, _, _, _, _⟩) rfl _ rfl _ zero64w ?_; intro g2 w2 hB2 hs2 hF2)
    | (with_reducible refine wpl_storea agg64 rfl (.tmp 2) (.tmp 20) rfl g2 (cellsW W) rfl rfl _ _ hB2 HWl.out (by simp [cellsW]) (cellsW_one _) ?_; intro w3 hB3 hF3))
  have hne : g ≠ g2 := by have := hbl1.size; omega
  have hF13 : Frm (fun k => k = g2) w1 w3 := (hF2.mono (T := fun k => k = g2) (fun _ _ h => h.elim)).trans hF3 (fun _ _ h => h)
  have hb3 := hb1.frm hF13 hne
  have hs12 := hbl1.size
  have hG3 : Gl w3 := (hG.frm hF1 (fun h => h) (fun h => h)).frm hF13 (by omega) (by omega)
  have hs13 := hF13.size
  refine (state_any g a b n w3 hG3 hb3 ha (by omega)).mono ?_
  rintro e w4 ⟨rfl, hbl4⟩
  have hF4 : Frm (fun _ => False) w3 w4 := Frm.of_below hbl4
  have hb4 := hb3.frm hF4 (fun h => h)
  have hB4 := hB3.frm hF4 (fun h => h)
  have hG4 := hG3.frm hF4 (fun h => h) (fun h => h)
  have HPw : Hid (Ws (plus a firstL)) := plus_ws _ _
  have HPl : Hid ((plus a firstL).length = 8) := by show _ = _; rw [plus_length _ _ (by rw [ha]; rfl), ha]
  generalize plus a firstL = p at *
  go_wp2_with (first
    | (with_reducible refine wpl_alloca (op := ⟨some 3, _, _, _, _, _⟩) rfl _ rfl _ zero8 ?_; intro g5 w5 hB5 hs5 hF5)
    | (with_reducible refine wpl_storea agg8 rfl (.tmp 3) (.tmp 22) rfl g5 (cellsW p) rfl rfl _ _ hB5 (by rw [cellsW_length, HPl.out]) (by simp [cellsW]) (cellsW_one _) ?_; intro w6 hB6 hF6))
  have hne5 : g ≠ g5 := by have := hbl4.size; omega
  have hne25 : g2 ≠ g5 := by have := hB3.lt; have := hbl4.size; omega
  have hF46 : Frm (fun k => k = g5) w4 w6 := (hF5.mono (T := fun k => k = g5) (fun _ _ h => h.elim)).trans hF6 (fun _ _ h => h)
  have hF06 : Frm (fun k => k = g) w w6 := by
    have f1 : Frm (fun k => k = g ∨ w.heap.size ≤ k) w w1 := hF1.mono (fun _ _ h => h.elim)
    have f2 : Frm (fun k => k = g) w w3 := (hF1.mono (T := fun k => k = g) (fun _ _ h => h.elim)).trans hF13 (fun i hi h => by omega)
    have f3 : Frm (fun k => k = g) w w4 := f2.trans hF4 (fun _ _ h => h.elim)
    exact f3.trans hF46 (fun i hi h => by have := f3.size; omega)
  have hst : AddInv w g g2 (cellsS a b n) W w6 := ⟨hb4.frm hF46 hne5, hB4.frm hF46 hne25, hG4.frm hF46 (by have := hb3.lt; have := hbl4.size; omega) (by have := hb3.lt; have := hbl4.size; omega), hF06⟩
  have hcs : ∀ i, i < 8 → w6.cell? ⟨g5, i, none⟩ = some (.int .u32 (p.getD i 0 : Nat)) := by
    intro i hi
    rw [hB6.cell, List.getElem?_toArray, cellsW_at _ _ (by rw [HPl.out]; exact hi)]
  have q0 := hcs 0 (by omega)
  have q1 := hcs 1 (by omega)
  have q2 := hcs 2 (by omega)
  have q3 := hcs 3 (by omega)
  have q4 := hcs 4 (by omega)
  have q5 := hcs 5 (by omega)
  have q6 := hcs 6 (by omega)
  have q7 := hcs 7 (by omega)
  have HOK : Hid (S8.of p).ok := S8.of_ok HPw.out
  have HRO : Hid (∀ k, (rounds W k (S8.of p)).ok) := fun k => rounds_ok W k HOK.out
  clear hcs hb4 hB4 hB6 hF46 hF5 hF6 hB5 hF06 hb3 hb1 hB3 hB2 hF1 hF2 hF3 hF4 hF13 hG3 hG4 hG hb hbl1 hbl4 HOK
  obtain ⟨s0, hs0⟩ : ∃ s0, s0 = S8.of p := ⟨_, rfl⟩
  have e0 : p.getD 0 0 = s0.a := by rw [hs0]; rfl
  have e1 : p.getD 1 0 = s0.b := by rw [hs0]; rfl
  have e2 : p.getD 2 0 = s0.c := by rw [hs0]; rfl
  have e3 : p.getD 3 0 = s0.d := by rw [hs0]; rfl
  have e4 : p.getD 4 0 = s0.e := by rw [hs0]; rfl
  have e5 : p.getD 5 0 = s0.f := by rw [hs0]; rfl
  have e6 : p.getD 6 0 = s0.g := by rw [hs0]; rfl
  have e7 : p.getD 7 0 = s0.h := by rw [hs0]; rfl
  rw [e0] at q0; rw [e1] at q1; rw [e2] at q2; rw [e3] at q3; rw [e4] at q4; rw [e5] at q5; rw [e6] at q6; rw [e7] at q7
  rw [← hs0] at HRO HAD
  clear e0 e1 e2 e3 e4 e5 e6 e7 hs0
  go_wp2_with fail
  go_quiet (fail)
  go_wp2_with fail
  have hstq : AddInv w g g2 (cellsS a b n) W (w6.drewN nq) := ⟨hst.src, hst.wb, hst.gl.drewN nq, hst.frm.drewN nq⟩
  go_loopw [4, 5, 6, 7, 8, 9, 10, 11, 39] (fun v4 v5 v6 v7 v8 v9 v10 v11 i wr => ∃ k : Nat, k ≤ 64 ∧ i = .int .i64 k ∧ v4 = .int .u32 ((rounds W k s0).a : Nat) ∧ v5 = .int .u32 ((rounds W k s0).b : Nat) ∧ v6 = .int .u32 ((rounds W k s0).c : Nat) ∧ v7 = .int .u32 ((rounds W k s0).d : Nat) ∧ v8 = .int .u32 ((rounds W k s0).e : Nat) ∧ v9 = .int .u32 ((rounds W k s0).f : Nat) ∧ v10 = .int .u32 ((rounds W k s0).g : Nat) ∧ v11 = .int .u32 ((rounds W k s0).h : Nat) ∧ AddInv w g g2 (cellsS a b n) W wr) (fun _ _ _ _ _ _ _ _ i _ => 64 - (intOf i).toNat)
  case atStart => exact ⟨0, by omega, rfl, rfl, rfl, rfl, rfl, rfl, rfl, rfl, rfl, hstq⟩
  case round =>
    obtain ⟨k, hk, rfl, rfl, rfl, rfl, rfl, rfl, rfl, rfl, rfl, hi⟩ := hrel
    clear hst hstq q0 q1 q2 q3 q4 q5 q6 q7
    by_cases hlt : k < 64
    · have hck := hi.gl.k k hlt
      have hcw : wr.cell? ⟨g2, k, none⟩ = some (.int .u32 (W.getD k 0 : Nat)) := by
        rw [hi.wb.cell, List.getElem?_toArray, cellsW_at _ _ (by rw [HWn.out]; exact hlt)]
      have HS : Hid (rounds W (k + 1) s0 = (rounds W k s0).step (kL.getD k 0) (W.getD k 0)) := rfl
      have HO := hide (HRO.out k)
      generalize rounds W k s0 = s at *
      generalize kL.getD k 0 = kk at *
      generalize W.getD k 0 = wk at *
      obtain ⟨a0, b0, c0, d0, e0, f0, g0, h0⟩ := s
      obtain ⟨o1, o2, o3, o4, o5, o6, o7, o8⟩ := HO.out
      simp only at o1 o2 o3 o4 o5 o6 o7 o8
      have tE : ∀ w, Calls Tryz.prog 114 #[.int .u32 e0, .int .i64 6, .int .i64 11, .int .i64 25] w fun e w' => e = .returned (.int .u32 (turnN e0 6 11 25 : Nat)) ∧ w = w' := fun w => turn_any e0 6 11 25 w o5 (by decide) (by decide) (by decide) (by decide) (by decide) (by decide)
      have tA : ∀ w, Calls Tryz.prog 114 #[.int .u32 a0, .int .i64 2, .int .i64 13, .int .i64 22] w fun e w' => e = .returned (.int .u32 (turnN a0 2 13 22 : Nat)) ∧ w = w' := fun w => turn_any a0 2 13 22 w o1 (by decide) (by decide) (by decide) (by decide) (by decide) (by decide)
      have TE := hide tE
      have TA := hide tA
      clear tE tA
      have m1 := u32_and_nat e0 f0 o5 o6
      have m2 := u32_andNot_nat g0 e0 o7 o5
      have m3 := u32_xor_nat (e0 &&& f0) (g0 &&& (4294967295 - e0)) (and_lt32 o5) (and_lt32 o7)
      have m4 := u32_and_nat a0 b0 o1 o2
      have m5 := u32_and_nat a0 c0 o1 o3
      have m6 := u32_xor_nat (a0 &&& b0) (a0 &&& c0) (and_lt32 o1) (and_lt32 o1)
      have m7 := u32_and_nat b0 c0 o2 o3
      have m8 := u32_xor_nat ((a0 &&& b0) ^^^ (a0 &&& c0)) (b0 &&& c0) (xor_lt32 (and_lt32 o1) (and_lt32 o1)) (and_lt32 o2)
      unfold S8.step tOf uOf at HS
      simp only at HS
      generalize turnN e0 6 11 25 = te at *
      generalize turnN a0 2 13 22 = ta at *
      generalize e0 &&& f0 = x1 at *
      generalize g0 &&& (4294967295 - e0) = x2 at *
      generalize x1 ^^^ x2 = x3 at *
      generalize a0 &&& b0 = y1 at *
      generalize a0 &&& c0 = y2 at *
      generalize y1 ^^^ y2 = y3 at *
      generalize b0 &&& c0 = y4 at *
      generalize y3 ^^^ y4 = y5 at *
      have n1 : IntKind.u32.wrap ((h0 : Int) + (te : Int)) = (ad h0 te : Nat) := by rw [IntKind.wrap_u32']; exact ad_int _ _
      have n2 : IntKind.u32.wrap ((ad h0 te : Nat) + (x3 : Int)) = (ad (ad h0 te) x3 : Nat) := by rw [IntKind.wrap_u32']; exact ad_int _ _
      have n3 : IntKind.u32.wrap ((ad (ad h0 te) x3 : Nat) + (kk : Int)) = (ad (ad (ad h0 te) x3) kk : Nat) := by rw [IntKind.wrap_u32']; exact ad_int _ _
      have n4 : IntKind.u32.wrap ((ad (ad (ad h0 te) x3) kk : Nat) + (wk : Int)) = (ad (ad (ad (ad h0 te) x3) kk) wk : Nat) := by rw [IntKind.wrap_u32']; exact ad_int _ _
      have n5 := ad_int ta y5
      generalize ad h0 te = z1 at *
      generalize ad z1 x3 = z2 at *
      generalize ad z2 kk = z3 at *
      generalize ad z3 wk = t at *
      generalize ad ta y5 = u at *
      have n6 := ad_int d0 t
      have n7 := ad_int t u
      generalize ad d0 t = dt at *
      generalize ad t u = tu at *
      clear o1 o2 o3 o4 o5 o6 o7 o8 HO
      go_wp2_with fail
      go_quiet ((go_at_call 114; (with_reducible exact quiet_same (TE.out _))))
      go_wp2_with (go_at_call 114; (with_reducible refine (TA.out _).mono ?_); rintro e w' ⟨rfl, rfl⟩)
      go_roundw
      case rel => exact ⟨k + 1, by omega, by go_num, by rw [HS.out, n7], by rw [HS.out], by rw [HS.out], by rw [HS.out], by rw [HS.out, n6], by rw [HS.out], by rw [HS.out], by rw [HS.out], ⟨hi.src, hi.wb, hi.gl.drewN nq, hi.frm.drewN nq⟩⟩
      case measure => simp [intOf]; omega
    · obtain rfl : k = 64 := by omega
      have HAD' := HAD.out
      obtain ⟨s, hs⟩ : ∃ s, s = rounds W 64 s0 := ⟨_, rfl⟩
      rw [← hs] at HAD' ⊢
      obtain ⟨L, hL⟩ : ∃ L, L = s.list := ⟨_, rfl⟩
      rw [← hL] at HAD'
      have hLl : L.length = 8 := by rw [hL]; rfl
      have HI : Hid (∀ (k : Nat) (w : World), k < 8 → Sem.run Tryz.prog (Instr.index 144 (.agg #[.int .u32 s.a, .int .u32 s.b, .int .u32 s.c, .int .u32 s.d, .int .u32 s.e, .int .u32 s.f, .int .u32 s.g, .int .u32 s.h]) (.int .i64 k)) w = .ok (.int .u32 (L.getD k 0 : Nat)) w) := by
        intro k w hk
        have := index8 L k hk hLl w
        rw [hL] at this ⊢
        exact this
      have HLl := hide hLl
      have hln : L.length = a.length := by rw [hLl, ha]
      have HPL : Hid ((plus a L).length = a.length) := plus_length _ _ hln.symm
      have H0 : Hid (AddInv2 w g (mix (plus a L) a 0) b n wr) := by show AddInv2 _ _ _ _ _ _; rw [mix_zero]; exact ⟨hi.src, hi.frm⟩
      have HA := hide HAD'
      have Hal := hide ha
      clear HAD' HAD hs hL hLl hln hi ha
      go_wp2_with fail
      go_loopw [98] (fun i wr => ∃ k : Nat, k ≤ 8 ∧ i = .int .i64 k ∧ AddInv2 w g (mix (plus a L) a k) b n wr) (fun i _ => 8 - (intOf i).toNat)
      case atStart => exact ⟨0, by omega, rfl, H0.out⟩
      case round =>
        clear H0
        obtain ⟨k, hk, rfl, hi⟩ := hrel
        by_cases hlt : k < 8
        · have hidx := fun w => HI.out k w hlt
          have hpl := HPL.out
          have hal := Hal.out
          have hc1 : wr.cell? ⟨g, k, none⟩ = some (.int .u32 (a.getD k 0 : Nat)) := by
            rw [hi.src.cell, List.getElem?_toArray, cellsS_word _ _ _ _ (by rw [mix_length _ _ _ hpl]; omega), List.getD_eq_getElem?_getD, mix_at _ _ _ hpl (by omega), ← List.getD_eq_getElem?_getD]
          have hf1 := hi.src.frozen k
          have hset := mix_set (plus a L) a k _ hpl (by omega) (plus_at a L k (by omega) (by rw [HLl.out]; exact hlt))
          have fin := hi.set k (ad (a.getD k 0) (L.getD k 0)) (by rw [mix_length _ _ _ hpl]; omega)
          rw [hset] at fin
          have FIN := hide fin
          generalize a.getD k 0 = x at *
          generalize L.getD k 0 = y at *
          have hadd : IntKind.u32.wrap ((x : Int) + (y : Int)) = (ad x y : Nat) := by rw [IntKind.wrap_u32']; exact ad_int _ _
          clear fin hset hal hpl
          go_wp2_with fail
          go_still_tail 11, (by kernel_rfl)
          have hc1' : wr.drew.cell? ⟨g, k, none⟩ = some (.int .u32 (x : Nat)) := hc1
          have hf1' : wr.drew.frozen? ⟨g, k, none⟩ = false := hf1
          change wpList _ _ _ _ _ wr.drew
          go_wp2
          go_roundw
          case rel => first | exact ⟨k + 1, by omega, by go_num, FIN.out⟩ | ((repeat apply Exists.intro); exact ⟨⟨k + 1, by omega, by go_num, FIN.out⟩, rfl⟩)
          case measure => simp [intOf]; omega
        · obtain rfl : k = 8 := by omega
          rw [mix_all _ _ _ HPL.out (by rw [Hal.out]; omega), ← HA.out] at hi
          go_wp2_with fail
          exact end0 rfl rfl ⟨rfl, hi.src, hi.frm⟩
end Go.Proofs.YtoiiiflnnhkjbaaGreatDoor
