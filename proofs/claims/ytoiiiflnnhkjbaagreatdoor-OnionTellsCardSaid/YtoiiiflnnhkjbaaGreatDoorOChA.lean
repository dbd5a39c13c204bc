/-
  The block of ChaCha20.
-/
import Derived.Test.YtoiiiflnnhkjbaaGreatDoorHp
import Derived.Test.YtoiiiflnnhkjbaaGreatDoorOGen
import Derived.Deep.RegionHeld
namespace Go.Proofs.YtoiiiflnnhkjbaaGreatDoor
set_option linter.unusedVariables false
open Go.RowKit

/-- Bytes with the lowest first. -/
def le4 (n : Nat) : List UInt8 := (be 4 n).reverse
theorem le4_length (n : Nat) : (le4 n).length = 4 := by rw [le4, List.length_reverse, be_length]
def lowN (l : List UInt8) : Nat := num l.reverse
/-- Turned left. -/
def leftN (x k : Nat) : Nat := rotN x (32 - k)
def qAdd (s : List Nat) (a b : Nat) : List Nat := s.set a (ad (s.getD a 0) (s.getD b 0))
def qTurn (s : List Nat) (d a k : Nat) : List Nat := s.set d (leftN (s.getD d 0 ^^^ s.getD a 0) k)
def quarterL (s : List Nat) (a b c d : Nat) : List Nat :=
  qTurn (qAdd (qTurn (qAdd (qTurn (qAdd (qTurn (qAdd s a b) d a 16) c d) b c 12) a b) d a 8) c d) b c 7
theorem qAdd_length (s : List Nat) (a b : Nat) : (qAdd s a b).length = s.length := by rw [qAdd, List.length_set]
theorem qTurn_length (s : List Nat) (d a k : Nat) : (qTurn s d a k).length = s.length := by rw [qTurn, List.length_set]
theorem quarterL_length (s : List Nat) (a b c d : Nat) : (quarterL s a b c d).length = s.length := by simp only [quarterL, qAdd_length, qTurn_length]
def downL (s : List Nat) : Nat → List Nat
  | 0 => s
  | k + 1 => quarterL (downL s k) k (4 + k) (8 + k) (12 + k)
def slantL (s : List Nat) : Nat → List Nat
  | 0 => s
  | k + 1 => quarterL (slantL s k) k (4 + (k + 1) % 4) (8 + (k + 2) % 4) (12 + (k + 3) % 4)
def tensL (s : List Nat) : Nat → List Nat
  | 0 => s
  | n + 1 => slantL (downL (tensL s n) 4) 4
def chaWords (all : List UInt8) : List Nat := (List.range 16).map fun i => lowN ((all.drop (4 * i)).take 4)
def expandL : List UInt8 := [101, 120, 112, 97, 110, 100, 32, 51, 50, 45, 98, 121, 116, 101, 32, 107]
def chaAll (key : List UInt8) (ctr : Nat) (nonce : List UInt8) : List UInt8 := expandL ++ key ++ le4 ctr ++ nonce
def chaL (key : List UInt8) (ctr : Nat) (nonce : List UInt8) : List UInt8 :=
  (List.zipWith ad (tensL (chaWords (chaAll key ctr nonce)) 10) (chaWords (chaAll key ctr nonce))).flatMap le4
theorem downL_length (s : List Nat) (k : Nat) : (downL s k).length = s.length := by
  induction k with
  | zero => rfl
  | succ k ih => rw [downL, quarterL_length, ih]
theorem slantL_length (s : List Nat) (k : Nat) : (slantL s k).length = s.length := by
  induction k with
  | zero => rfl
  | succ k ih => rw [slantL, quarterL_length, ih]
theorem tensL_length (s : List Nat) (n : Nat) : (tensL s n).length = s.length := by
  induction n with
  | zero => rfl
  | succ n ih => rw [tensL, slantL_length, downL_length, ih]
theorem chaWords_length (all : List UInt8) : (chaWords all).length = 16 := by simp [chaWords]
theorem flatle_length (ws : List Nat) : (ws.flatMap le4).length = 4 * ws.length := by
  induction ws with
  | nil => rfl
  | cons a l ih => rw [List.flatMap_cons, List.length_append, ih, le4_length, List.length_cons]; omega
theorem chaL_length (key : List UInt8) (ctr : Nat) (nonce : List UInt8) : (chaL key ctr nonce).length = 64 := by
  rw [chaL, flatle_length, List.length_zipWith, tensL_length, chaWords_length]
  rfl
/-- The first n bytes of the blocks from 0 on. -/
def blocksL (key nonce : List UInt8) : Nat → List UInt8
  | 0 => []
  | k + 1 => blocksL key nonce k ++ chaL key k nonce
def streamL (key nonce : List UInt8) (n : Nat) : List UInt8 := (blocksL key nonce ((n + 63) / 64)).take n
theorem blocksL_length (key nonce : List UInt8) (k : Nat) : (blocksL key nonce k).length = 64 * k := by
  induction k with
  | zero => rfl
  | succ k ih => rw [blocksL, List.length_append, ih, chaL_length]; omega
theorem streamL_length (key nonce : List UInt8) (n : Nat) : (streamL key nonce n).length = n := by rw [streamL, List.length_take, blocksL_length]; omega
theorem leftN_lt {x k : Nat} (hx : x < 4294967296) : leftN x k < 4294967296 := rotN_lt hx
theorem andk (k : Nat) (h2 : k ≤ 31) : bits .and .u64 (k : Int) 31 = k := by
  have all : ∀ j : Fin 32, bits .and .u64 (j.val : Int) 31 = (j.val : Int) := by decide +kernel
  exact all ⟨k, by omega⟩
theorem rotl_any (x k : Nat) (w : World) (hx : x < 4294967296) (h1 : 1 ≤ k) (h2 : k ≤ 31) :
    Calls Tryz.prog 115 #[.int .u32 x, .int .i64 k] w fun e w' => e = .returned (.int .u32 (leftN x k : Nat)) ∧ w = w' := by
  have h3 := andk k h2
  have h0 : IntKind.u64.wrap (k : Int) = k := by rw [IntKind.wrap_u64]; omega
  have h4 : min (k : Int).toNat IntKind.u32.bits = k := by have : IntKind.u32.bits = 32 := rfl; omega
  have h5 : IntKind.u64.wrap (32 - (k : Int)) = ((32 - k : Nat) : Int) := by rw [IntKind.wrap_u64]; omega
  have h6 : min ((32 - k : Nat) : Int).toNat IntKind.u32.bits = 32 - k := by have : IntKind.u32.bits = 32 := rfl; omega
  have h9 : bits .or .u32 ((x : Int) * 2 ^ k % 4294967296) ((x : Int) / 2 ^ (32 - k)) = (leftN x k : Nat) := by
    have := rot_eq x (32 - k) hx
    rw [show 32 - (32 - k) = k by omega] at this
    exact this
  have h7 : ∀ w, Sem.run Tryz.prog (Op.shift .shl .u32 x .u64 (k : Int)) w = .ok (.int .u32 ((x : Int) * 2 ^ k % 4294967296)) w := by
    intro w; rw [shift_shl_any _ _ _ _ (by omega), h4, IntKind.wrap_u32']; rfl
  have h8 : ∀ w, Sem.run Tryz.prog (Op.shift .shr .u32 x .u64 ((32 - k : Nat) : Int)) w = .ok (.int .u32 ((x : Int) / 2 ^ (32 - k))) w := by
    intro w; rw [shift_shr_any _ _ _ _ (by omega), h6]; rfl
  clear h4 h6 hx
  go_enter Tryz.func115, Tryz.ntmps115
  go_wp2_with fail
  go_ret
  exact ⟨rfl, rfl⟩
/-- A quarter of four numbers. -/
structure Q4 where
  a : Nat
  b : Nat
  c : Nat
  d : Nat
def Q4.one (q : Q4) (i j : Nat) : Q4 :=
  let a1 := ad q.a q.b
  let d1 := leftN (q.d ^^^ a1) i
  let c1 := ad q.c d1
  ⟨a1, leftN (q.b ^^^ c1) j, c1, d1⟩
def Q4.two (q : Q4) : Q4 := (q.one 16 12).one 8 7
structure Q4.ok (q : Q4) : Prop where
  a : q.a < 4294967296
  b : q.b < 4294967296
  c : q.c < 4294967296
  d : q.d < 4294967296
theorem Q4.ok.one {q : Q4} (h : q.ok) (i j : Nat) : (q.one i j).ok := ⟨ad_lt _ _, leftN_lt (xor_lt32 h.b (ad_lt _ _)), ad_lt _ _, leftN_lt (xor_lt32 h.d (ad_lt _ _))⟩
theorem Q4.ok.two {q : Q4} (h : q.ok) : q.two.ok := (h.one 16 12).one 8 7
theorem results_four {fn : Func} {t u v z : Tmp} (h : fn.results = #[.tmp t, .tmp u, .tmp v, .tmp z]) (tmps : Array Value) (P : Program) (w : World) :
    (results fn tmps).run P w = .ok (.tuple #[tmps.getD t undef, tmps.getD u undef, tmps.getD v undef, tmps.getD z undef]) w := by
  simp [results, h]
set_option maxRecDepth 100000 in
set_option maxHeartbeats 1000000 in
theorem quarter_any (q : Q4) (w : World) (h : q.ok) :
    Calls Tryz.prog 112 #[.int .u32 q.a, .int .u32 q.b, .int .u32 q.c, .int .u32 q.d] w fun e w' => e = .returned (.tuple #[.int .u32 q.two.a, .int .u32 q.two.b, .int .u32 q.two.c, .int .u32 q.two.d]) ∧ w = w' := by
  obtain ⟨a, b, c, d⟩ := q
  obtain ⟨ha, hb, hc, hd⟩ := h
  dsimp only at ha hb hc hd ⊢
  have wadd : ∀ x y : Nat, IntKind.u32.wrap ((x : Int) + (y : Int)) = (ad x y : Nat) := fun x y => by rw [IntKind.wrap_u32']; exact ad_int _ _
  obtain ⟨a1, ea1⟩ : ∃ a1, a1 = ad a b := ⟨_, rfl⟩
  have la1 : a1 < 4294967296 := by rw [ea1]; exact ad_lt _ _
  have wa1 := wadd a b
  rw [← ea1] at wa1
  have x1 := u32_xor_nat d a1 hd la1
  have lx1 := xor_lt32 hd la1
  obtain ⟨y1, ey1⟩ : ∃ y1, y1 = d ^^^ a1 := ⟨_, rfl⟩
  rw [← ey1] at x1 lx1
  obtain ⟨d1, ed1⟩ : ∃ d1, d1 = leftN y1 16 := ⟨_, rfl⟩
  have ld1 : d1 < 4294967296 := by rw [ed1]; exact leftN_lt lx1
  obtain ⟨c1, ec1⟩ : ∃ c1, c1 = ad c d1 := ⟨_, rfl⟩
  have lc1 : c1 < 4294967296 := by rw [ec1]; exact ad_lt _ _
  have wc1 := wadd c d1
  rw [← ec1] at wc1
  have x2 := u32_xor_nat b c1 hb lc1
  have lx2 := xor_lt32 hb lc1
  obtain ⟨y2, ey2⟩ : ∃ y2, y2 = b ^^^ c1 := ⟨_, rfl⟩
  rw [← ey2] at x2 lx2
  obtain ⟨b1, eb1⟩ : ∃ b1, b1 = leftN y2 12 := ⟨_, rfl⟩
  have lb1 : b1 < 4294967296 := by rw [eb1]; exact leftN_lt lx2
  obtain ⟨a2, ea2⟩ : ∃ a2, a2 = ad a1 b1 := ⟨_, rfl⟩
  have la2 : a2 < 4294967296 := by rw [ea2]; exact ad_lt _ _
  have wa2 := wadd a1 b1
  rw [← ea2] at wa2
  have x3 := u32_xor_nat d1 a2 ld1 la2
  have lx3 := xor_lt32 ld1 la2
  obtain ⟨y3, ey3⟩ : ∃ y3, y3 = d1 ^^^ a2 := ⟨_, rfl⟩
  rw [← ey3] at x3 lx3
  obtain ⟨d2, ed2⟩ : ∃ d2, d2 = leftN y3 8 := ⟨_, rfl⟩
  have ld2 : d2 < 4294967296 := by rw [ed2]; exact leftN_lt lx3
  obtain ⟨c2, ec2⟩ : ∃ c2, c2 = ad c1 d2 := ⟨_, rfl⟩
  have lc2 : c2 < 4294967296 := by rw [ec2]; exact ad_lt _ _
  have wc2 := wadd c1 d2
  rw [← ec2] at wc2
  have x4 := u32_xor_nat b1 c2 lb1 lc2
  have lx4 := xor_lt32 lb1 lc2
  obtain ⟨y4, ey4⟩ : ∃ y4, y4 = b1 ^^^ c2 := ⟨_, rfl⟩
  rw [← ey4] at x4 lx4
  obtain ⟨b2, eb2⟩ : ∃ b2, b2 = leftN y4 7 := ⟨_, rfl⟩
  have hq : (Q4.mk a b c d).two = ⟨a2, b2, c2, d2⟩ := by
    subst eb2 ey4 ec2 ed2 ey3 ea2 eb1 ey2 ec1 ed1 ey1 ea1
    rfl
  rw [hq]
  have c1' : ∀ w, Calls Tryz.prog 115 #[.int .u32 (y1 : Int), .int .i64 16] w fun e w' => e = .returned (.int .u32 (leftN y1 16 : Nat)) ∧ w = w' := fun w => rotl_any y1 16 w lx1 (by omega) (by omega)
  have c2' : ∀ w, Calls Tryz.prog 115 #[.int .u32 (y2 : Int), .int .i64 12] w fun e w' => e = .returned (.int .u32 (leftN y2 12 : Nat)) ∧ w = w' := fun w => rotl_any y2 12 w lx2 (by omega) (by omega)
  have c3' : ∀ w, Calls Tryz.prog 115 #[.int .u32 (y3 : Int), .int .i64 8] w fun e w' => e = .returned (.int .u32 (leftN y3 8 : Nat)) ∧ w = w' := fun w => rotl_any y3 8 w lx3 (by omega) (by omega)
  have c4' : ∀ w, Calls Tryz.prog 115 #[.int .u32 (y4 : Int), .int .i64 7] w fun e w' => e = .returned (.int .u32 (leftN y4 7 : Nat)) ∧ w = w' := fun w => rotl_any y4 7 w lx4 (by omega) (by omega)
  rw [← ed1] at c1'
  rw [← eb1] at c2'
  rw [← ed2] at c3'
  rw [← eb2] at c4'
  have C1 := hide c1'
  have C2 := hide c2'
  have C3 := hide c3'
  have C4 := hide c4'
  clear c1' c2' c3' c4' wadd ea1 ey1 ed1 ec1 ey2 eb1 ea2 ey3 ed2 ec2 ey4 eb2 hq ha hb hc hd la1 lx1 ld1 lc1 lx2 lb1 la2 lx3 ld2 lc2 lx4
  go_enter Tryz.func112, Tryz.ntmps112
  go_wp2_with fail
  refine (C1.out _).mono ?_
  rintro e w' ⟨rfl, rfl⟩
  go_wp2_with fail
  refine (C2.out _).mono ?_
  rintro e w' ⟨rfl, rfl⟩
  go_wp2_with fail
  refine (C3.out _).mono ?_
  rintro e w' ⟨rfl, rfl⟩
  go_wp2_with fail
  refine (C4.out _).mono ?_
  rintro e w' ⟨rfl, rfl⟩
  go_wp2_with fail
  (try simp only [Exit.inBlock, Exit.then])
  refine bodyPost_ret (results_four rfl _ _ _) rfl ?_
  exact ⟨rfl, rfl⟩
theorem low_eq (b0 b1 b2 b3 : UInt8) : lowN [b0, b1, b2, b3] = b0.toNat + b1.toNat * 256 + b2.toNat * 65536 + b3.toNat * 16777216 := by simp [lowN, num]; omega
theorem number_low (b0 b1 b2 b3 : UInt8) : bits .or .u32 (bits .or .u32 (bits .or .u32 (b0.toNat : Int) ((b1.toNat : Int) * 256)) ((b2.toNat : Int) * 65536)) ((b3.toNat : Int) * 16777216) = (lowN [b0, b1, b2, b3] : Nat) := by
  have l0 := b0.toNat_lt
  have l1 := b1.toNat_lt
  have l2 := b2.toNat_lt
  have l3 := b3.toNat_lt
  have e1 := u32_or_nat b0.toNat (b1.toNat * 256) (by omega) (by omega)
  rw [Nat.or_comm, nat_join 8 _ _ (by omega) (by omega)] at e1
  have e2 := u32_or_nat (b1.toNat * 256 + b0.toNat) (b2.toNat * 65536) (by omega) (by omega)
  rw [Nat.or_comm, nat_join 16 _ _ (by omega) (by omega)] at e2
  have e3 := u32_or_nat (b2.toNat * 65536 + (b1.toNat * 256 + b0.toNat)) (b3.toNat * 16777216) (by omega) (by omega)
  rw [Nat.or_comm, nat_join 24 _ _ (by omega) (by omega)] at e3
  rw [show lowN [b0, b1, b2, b3] = b3.toNat * 16777216 + (b2.toNat * 65536 + (b1.toNat * 256 + b0.toNat)) by rw [low_eq]; omega]
  rw [← e3]
  simp only [Int.natCast_mul] at e1 e2 ⊢
  refine congrArg (fun z => bits .or .u32 z ((b3.toNat : Int) * 16777216)) ?_
  rw [← e2]
  refine congrArg (fun z => bits .or .u32 z ((b2.toNat : Int) * 65536)) ?_
  exact e1
theorem cnumber_any (g off n c : Nat) (b0 b1 b2 b3 : UInt8) (w : World) (h4 : 4 ≤ n) (hn : n ≤ 1000)
    (h0 : w.cell? ⟨g, off, none⟩ = some (.int .u8 (b0.toNat : Int))) (h1 : w.cell? ⟨g, off + 1, none⟩ = some (.int .u8 (b1.toNat : Int)))
    (h2 : w.cell? ⟨g, off + 2, none⟩ = some (.int .u8 (b2.toNat : Int))) (h3 : w.cell? ⟨g, off + 3, none⟩ = some (.int .u8 (b3.toNat : Int))) :
    Calls Tryz.prog 111 #[.slice (some ⟨g, off, none⟩) n c] w fun e w' => e = .returned (.int .u32 (lowN [b0, b1, b2, b3] : Nat)) ∧ ∃ m, w' = w.drewN m := by
  have l0 := b0.toNat_lt
  have l1 := b1.toNat_lt
  have l2 := b2.toNat_lt
  have l3 := b3.toNat_lt
  go_enter Tryz.func111, Tryz.ntmps111
  go_wp2_with fail
  go_quiet (fail)
  go_wp2
  go_ret
  exact ⟨congrArg (fun z => Ending.returned (.int .u32 z)) (number_low b0 b1 b2 b3), _, rfl⟩
theorem le4_cells (v : Nat) (h : v < 4294967296) : cellsB (le4 v) = [.int .u8 ((v : Int) % 256), .int .u8 ((v : Int) / 256 % 256), .int .u8 ((v : Int) / 65536 % 256), .int .u8 ((v : Int) / 16777216)] := by
  simp [cellsB, le4, be, List.range_succ]
  omega
theorem cput_any (g off n c : Nat) (v : Nat) (cs : List Value) (t : TypeId) (w : World) (h4 : 4 ≤ n) (hn : n ≤ 1000) (hv : v < 4294967296)
    (hb : Blk w g t cs.toArray) (ho : off + 4 ≤ cs.length) :
    Calls Tryz.prog 96 #[.slice (some ⟨g, off, none⟩) n c, .int .u32 (v : Int)] w fun e w' => e = .returned (.tuple #[]) ∧ Blk w' g t (splice cs off (cellsB (le4 v))).toArray ∧ Frm (fun k => k = g) w w' := by
  have f0 := hb.frozen off
  have f1 := hb.frozen (off + 1)
  have f2 := hb.frozen (off + 2)
  have f3 := hb.frozen (off + 3)
  have h0 : w.cell? ⟨g, off, none⟩ = some cs[off] := by rw [hb.cell]; simp
  have h1 : w.cell? ⟨g, off + 1, none⟩ = some cs[off + 1] := by rw [hb.cell]; simp
  have h2 : w.cell? ⟨g, off + 2, none⟩ = some cs[off + 2] := by rw [hb.cell]; simp
  have h3 : w.cell? ⟨g, off + 3, none⟩ = some cs[off + 3] := by rw [hb.cell]; simp
  generalize cs[off] = x0 at *
  generalize cs[off + 1] = x1 at *
  generalize cs[off + 2] = x2 at *
  generalize cs[off + 3] = x3 at *
  have HO := hide ho
  clear ho
  go_enter Tryz.func96, Tryz.ntmps96
  go_wp2_with fail
  refine end0 rfl rfl ⟨rfl, ?_, ?_⟩
  · have := ((((hb.set off (.int .u8 ((v : Int) % 256))).set (off + 1) (.int .u8 ((v : Int) / 256 % 256))).set (off + 2) (.int .u8 ((v : Int) / 65536 % 256))).set (off + 3) (.int .u8 ((v : Int) / 16777216)))
    rw [le4_cells v hv, ← set4 _ _ _ _ _ _ HO.out]
    simpa using this
  · exact ((((Frm.setCell _ _ _ (fun k => k = g) rfl).trans (Frm.setCell _ _ _ (fun k => k = g) rfl) (fun _ _ h => h)).trans (Frm.setCell _ _ _ (fun k => k = g) rfl) (fun _ _ h => h)).trans (Frm.setCell _ _ _ (fun k => k = g) rfl) (fun _ _ h => h))
def first4 : List Nat := [1634760805, 857760878, 2036477234, 1797285236]
def quartersL : List Nat := [0, 4, 8, 12, 1, 5, 9, 13, 2, 6, 10, 14, 3, 7, 11, 15, 0, 5, 10, 15, 1, 6, 11, 12, 2, 7, 8, 13, 3, 4, 9, 14]
def cellsI (l : List Nat) : List Value := l.map fun n : Nat => .int .i64 (n : Int)
theorem cellsI_length (l : List Nat) : (cellsI l).length = l.length := by simp [cellsI]
theorem cellsI_at (l : List Nat) (j : Nat) (h : j < l.length) : (cellsI l)[j]? = some (.int .i64 ((l.getD j 0 : Nat) : Int)) := by
  rw [cellsI, List.getElem?_map, List.getD_eq_getElem?_getD, List.getElem?_eq_getElem h]; rfl
theorem cellsI_one (l : List Nat) : ∀ u ∈ cellsI l, u.oneCell' = true := by
  intro u hu
  obtain ⟨_, _, rfl⟩ := List.mem_map.1 hu
  rfl
/-- The tables of chacha. -/
structure Gc (w : World) : Prop where
  first : ∀ i, i < 4 → w.cell? ⟨0, i, none⟩ = some (.int .u32 (first4.getD i 0 : Nat))
  quarters : ∀ i, i < 32 → w.cell? ⟨1, i, none⟩ = some (.int .i64 (quartersL.getD i 0 : Nat))
theorem Gc.frm {S : Nat → Prop} {w w' : World} (h : Gc w) (f : Frm S w w') (h0 : ¬ S 0) (h1 : ¬ S 1) : Gc w' :=
  ⟨fun i hi => cell_frm f (h.first i hi) h0, fun i hi => cell_frm f (h.quarters i hi) h1⟩
theorem Gc.frm0 {w w' : World} (h : Gc w) (f : Frm (fun _ => False) w w') : Gc w' := h.frm f (fun h => h) (fun h => h)
theorem Gc.drewN {w : World} (h : Gc w) (n : Nat) : Gc (w.drewN n) := ⟨h.first, h.quarters⟩
/-- A whole array, by its cells. -/
theorem wpl_load_at {P : Program} {ty : TypeId} {n : Nat} (hA : Agg P ty n) {ops : Array Oper} {rest : List Oper} {op : Oper} {a : Act} {w : World} {Q : Exit → Act → World → Prop} (hgd : op.guard = none) (x : Operand) (ho : op.op = .load ty x)
    (g : Nat) (hx : a.eval x = .pointer (some ⟨g, 0, none⟩)) (xs : List Value) (hl : xs.length = n) (hc : ∀ j v, xs[j]? = some v → w.cell? ⟨g, j, none⟩ = some v)
    (h : wpList P ops Q rest (a.put op.dst (.agg xs.toArray)) w) : wpList P ops Q (op :: rest) a w := by
  refine wpList_plain hgd fun _ hK => ?_
  obtain ⟨⟨d, hu, hd⟩, hi⟩ := hA
  have h1 : (loadCells ⟨g, 0, none⟩ xs.length).run P w = .ok xs.toArray w :=
    run_loadCells_list (P := P) w ⟨g, 0, none⟩ xs (fun j v hv => by rw [addr_add, Nat.zero_add]; exact hc j v hv)
  have h2 : (loadVar ty ⟨g, 0, none⟩).run P w = .ok (.agg xs.toArray) w := by
    cases hq : P.info? ty with
    | none => simp [hq] at hi
    | some i =>
      have hs : i.size = n := by simpa [hq] using hi
      have hagg : (isAgg ty).run P w = .ok true w := by
        unfold isAgg
        rw [Sem.run_bind, run_underlying hu w]
        cases d <;> simp_all [isAggD]
      rw [hl] at h1
      simp [loadVar, Sem.run_bind, hagg, sizeOf, typeInfo, hq, hs, h1]
  unfold Oper.wp execOp
  simp only [ho, hx, Instr.loadAt, Instr.sureAddr, Sem.run_bind, Sem.run_pure, Result.andThen_ok, h2]
  exact hK _ _ h
theorem agg4 : Agg Tryz.prog 176 4 := Agg.of (by kernel_rfl) (by kernel_rfl)
theorem agg16w : Agg Tryz.prog 160 16 := Agg.of (by kernel_rfl) (by kernel_rfl)
theorem agg12 : Agg Tryz.prog 103 12 := Agg.of (by kernel_rfl) (by kernel_rfl)
theorem zero16w : (Tryz.prog.info? 160).map (fun i => i.zero) = some (some (.agg (cellsW (List.replicate 16 0)).toArray)) := by kernel_rfl
theorem under12 : Tryz.prog.underlying 103 = some (.array 12 5) := by kernel_rfl
theorem under4w : Tryz.prog.underlying 176 = some (.array 4 28) := by kernel_rfl
theorem under16w : Tryz.prog.underlying 160 = some (.array 16 28) := by kernel_rfl
theorem underU32 : Tryz.prog.underlying 28 = some (.int .u32) := by kernel_rfl
theorem sizeU32 : (Tryz.prog.info? 28).map (·.size) = some 1 := by kernel_rfl
theorem chaWords_get (all : List UInt8) (k : Nat) (h : k < 16) : (chaWords all)[k]? = some (lowN ((all.drop (4 * k)).take 4)) := by
  rw [chaWords, List.getElem?_map, List.getElem?_range h]; rfl
theorem chaAll_first (key : List UInt8) (ctr : Nat) (nonce : List UInt8) (k : Nat) (h : k < 4) : lowN (((chaAll key ctr nonce).drop (4 * k)).take 4) = first4.getD k 0 := by
  match k, h with
  | 0, _ => rfl
  | 1, _ => rfl
  | 2, _ => rfl
  | 3, _ => rfl
theorem drop_mid (x y z : List UInt8) (n k m : Nat) (hx : x.length = n) (hk : k + m ≤ y.length) : ((x ++ y ++ z).drop (n + k)).take m = (y.drop k).take m := by
  subst hx
  rw [List.append_assoc, ← List.drop_drop, List.drop_left, List.drop_append_of_le_length (by omega), List.take_append_of_le_length (by rw [List.length_drop]; omega)]
theorem chaAll_key (key : List UInt8) (ctr : Nat) (nonce : List UInt8) (k : Nat) (h : k < 8) (hk : key.length = 32) : ((chaAll key ctr nonce).drop (4 * (4 + k))).take 4 = (key.drop (4 * k)).take 4 := by
  have := drop_mid expandL key (le4 ctr ++ nonce) 16 (4 * k) 4 rfl (by omega)
  rw [chaAll, List.append_assoc, show 4 * (4 + k) = 16 + 4 * k by omega]
  exact this
theorem chaAll_ctr (key : List UInt8) (ctr : Nat) (nonce : List UInt8) (hk : key.length = 32) : ((chaAll key ctr nonce).drop (4 * 12)).take 4 = le4 ctr := by
  have := drop_mid (expandL ++ key) (le4 ctr) nonce 48 0 4 (by rw [List.length_append, hk]; rfl) (by rw [le4_length]; omega)
  rw [List.drop_zero, show (le4 ctr).take 4 = le4 ctr from List.take_of_length_le (by rw [le4_length]; omega)] at this
  exact this
theorem chaAll_nonce (key : List UInt8) (ctr : Nat) (nonce : List UInt8) (k : Nat) (h : k < 3) (hk : key.length = 32) (hn : nonce.length = 12) : ((chaAll key ctr nonce).drop (4 * (13 + k))).take 4 = (nonce.drop (4 * k)).take 4 := by
  have := drop_mid (expandL ++ key ++ le4 ctr) nonce [] 52 (4 * k) 4 (by rw [List.length_append, List.length_append, hk, le4_length]; rfl) (by omega)
  rw [List.append_nil] at this
  rw [chaAll, show 4 * (13 + k) = 52 + 4 * k by omega]
  exact this
theorem low_le4 (v : Nat) (h : v < 4294967296) : lowN (le4 v) = v := by
  have : le4 v = [UInt8.ofNat v, UInt8.ofNat (v / 256), UInt8.ofNat (v / 65536), UInt8.ofNat (v / 16777216)] := by simp [le4, be, List.range_succ]
  rw [this, low_eq]
  simp only [UInt8.toNat_ofNat']
  omega
theorem lowN_lt4 (l : List UInt8) (h : l.length ≤ 4) : lowN l < 4294967296 := by
  have h1 := num_lt l.reverse
  have h2 : 256 ^ l.reverse.length ≤ 256 ^ 4 := Nat.pow_le_pow_right (by omega) (by rw [List.length_reverse]; exact h)
  show num l.reverse < _
  omega
theorem chaWords_ws (all : List UInt8) : Ws (chaWords all) := by
  intro x hx
  obtain ⟨i, _, rfl⟩ := List.mem_map.1 hx
  exact lowN_lt4 _ (by rw [List.length_take]; omega)
structure StartInv (w : World) (gk gn g6 g7 : Nat) (key nonce : List UInt8) (l : List Nat) (wr : World) : Prop where
  key : Blk wr gk 26 (cellsB key).toArray
  nonce : Blk wr gn 103 (cellsB nonce).toArray
  res : Blk wr g6 160 (cellsW (List.replicate 16 0)).toArray
  blk : Blk wr g7 160 (cellsW l).toArray
  below : Below w.heap.size w wr
theorem StartInv.set {w : World} {gk gn g6 g7 : Nat} {key nonce : List UInt8} {l : List Nat} {wr : World} (h : StartInv w gk gn g6 g7 key nonce l wr) (h1 : gk ≠ g7) (h2 : gn ≠ g7) (h3 : g6 ≠ g7) (h4 : w.heap.size ≤ g7) (q k x : Nat) :
    StartInv w gk gn g6 g7 key nonce (l.set k x) ((wr.drewN q).setCell ⟨g7, k, none⟩ (.int .u32 (x : Int))) := by
  have hb := Blk.set (w := wr.drewN q) h.blk k (.int .u32 (x : Int))
  rw [List.setIfInBounds_toArray, cellsW_set] at hb
  have fr : Frm (fun i => i = g7) wr ((wr.drewN q).setCell ⟨g7, k, none⟩ (.int .u32 (x : Int))) := ((Frm.refl _ _).drewN q).trans (Frm.setCell _ _ _ (fun i => i = g7) rfl) (fun _ _ h => h)
  exact ⟨h.key.frm fr h1, h.nonce.frm fr h2, h.res.frm fr h3, hb, below_frm h.below fr h.below.size (by intro i hi; omega)⟩
theorem StartInv.room {w : World} {gk gn g6 g7 : Nat} {key nonce : List UInt8} {l : List Nat} {wr : World} (h : StartInv w gk gn g6 g7 key nonce l wr) (hl : l.length = 16) (k : Nat) (hk : k < 16) :
    ∃ v, ∀ q, (wr.drewN q).cell? ⟨g7, k, none⟩ = some v ∧ (wr.drewN q).frozen? ⟨g7, k, none⟩ = false := by
  refine ⟨(cellsW l)[k]'(by rw [cellsW_length]; omega), fun q => ⟨?_, h.blk.frozen k⟩⟩
  have := h.blk.cell k
  rw [List.getElem?_toArray, List.getElem?_eq_getElem (by rw [cellsW_length]; omega)] at this
  exact this
set_option maxRecDepth 100000 in
set_option maxHeartbeats 4000000 in
theorem start_any (key nonce : List UInt8) (ctr : Nat) (w : World) (hG : Gc w) (hk : key.length = 32) (hn : nonce.length = 12) (hc : ctr < 4294967296) :
    Calls Tryz.prog 94 #[.agg (cellsB key).toArray, .int .u32 (ctr : Int), .agg (cellsB nonce).toArray] w fun e w' => e = .returned (.agg (cellsW (chaWords (chaAll key ctr nonce))).toArray) ∧ Below w.heap.size w w' := by
  have hF0 : Frm (fun _ => False) w ((w.alloc (.cells (cellsB key).toArray 26)).alloc (.cells (cellsB nonce).toArray 103)) := Frm.two _ _ _
  have hBK := (Blk.new w 26 (cellsB key).toArray).frm (Frm.alloc (w.alloc (.cells (cellsB key).toArray 26)) (.cells (cellsB nonce).toArray 103) (fun _ => False)) (fun h => h)
  have hBN := Blk.new (w.alloc (.cells (cellsB key).toArray 26)) 103 (cellsB nonce).toArray
  rw [show (w.alloc (.cells (cellsB key).toArray 26)).heap.size = w.heap.size + 1 by simp] at hBN
  obtain ⟨S, hS⟩ : ∃ S, S = chaWords (chaAll key ctr nonce) := ⟨_, rfl⟩
  have HSL : Hid (S.length = 16) := by rw [hS]; exact chaWords_length _
  have HF : Hid (∀ k, k < 4 → S[k]? = some (first4.getD k 0)) := by rw [hS]; intro k h; rw [chaWords_get _ _ (by omega), chaAll_first _ _ _ _ h]
  have HK : Hid (∀ k, k < 8 → S[4 + k]? = some (lowN [key.getD (4 * k) 0, key.getD (4 * k + 1) 0, key.getD (4 * k + 2) 0, key.getD (4 * k + 3) 0])) := by rw [hS]; intro k h; rw [chaWords_get _ _ (by omega), chaAll_key _ _ _ _ h hk, drop_take4 _ _ (by omega)]
  have HC : Hid (S[12]? = some ctr) := by rw [hS]; show _ = _; rw [chaWords_get _ _ (by omega), chaAll_ctr _ _ _ hk, low_le4 _ hc]
  have HN : Hid (∀ k, k < 3 → S[13 + k]? = some (lowN [nonce.getD (4 * k) 0, nonce.getD (4 * k + 1) 0, nonce.getD (4 * k + 2) 0, nonce.getD (4 * k + 3) 0])) := by rw [hS]; intro k h; rw [chaWords_get _ _ (by omega), chaAll_nonce _ _ _ _ h hk hn, drop_take4 _ _ (by omega)]
  rw [← hS]
  have HKL := hide hk
  have HNL := hide hn
  obtain ⟨fl, hfl⟩ : ∃ fl, fl = first4 := ⟨_, rfl⟩
  have HFL : Hid ((cellsW fl).length = 4) := by rw [hfl]; rfl
  have hix : ∀ (k : Nat), k < 4 → ∀ w, Sem.run Tryz.prog (Instr.index 176 (.agg (cellsW fl).toArray) (.int .i64 (k : Int))) w = .ok (.int .u32 (fl.getD k 0 : Nat)) w := by
    intro k hk w
    exact run_index_agg under4w underU32 sizeU32 (cellsW fl) k _ hk (cellsW_at fl k (by rw [hfl]; exact hk)) w
  have HIX := hide hix
  have hcells : ∀ w', Frm (fun _ => False) w w' → ∀ j v, (cellsW fl)[j]? = some v → w'.cell? ⟨0, j, none⟩ = some v := by
    intro w' f j v hv
    have hj : j < 4 := by have := (List.getElem?_eq_some_iff.1 hv).1; rw [HFL.out] at this; exact this
    rw [cellsW_at fl j (by rw [hfl]; exact hj), hfl] at hv
    rw [← hv]
    exact (hG.frm0 f).first j hj
  have HCE := hide hcells
  rw [← hfl] at HF
  clear hS hk hn hc hfl hix hcells hG
  go_enter Tryz.func94, Tryz.ntmps94
  go_wp2_with (first
    | ((with_reducible refine wpl_alloca (op := ⟨some 6, _, _, _, _, _⟩) rfl _ rfl _ zero16w ?_); intro g6 w1 hB1 hs1 hF1; have hF01 := hF0.trans hF1 (fun _ _ h => h))
    | ((with_reducible refine wpl_alloca (op := ⟨some 7, _, _, _, _, _⟩) rfl _ rfl _ zero16w ?_); intro g7 w2 hB2 hs2 hF2; have hF02 := hF01.trans hF2 (fun _ _ h => h))
    | (with_reducible refine wpl_load_at (op := ⟨some 12, _, _, _, _, _⟩) agg4 rfl _ rfl 0 rfl (cellsW fl) HFL.out (HCE.out w2 hF02) ?_))
  have hsz := hF0.size
  have hk1 := hBK.lt
  have hn1 := hBN.lt
  have hne1 : w.heap.size ≠ g7 := by have := hF1.size; omega
  have hne2 : w.heap.size + 1 ≠ g7 := by have := hF1.size; omega
  have hne3 : g6 ≠ g7 := by have := hB1.lt; omega
  have hge : w.heap.size ≤ g7 := by have := hF1.size; omega
  have hge6 : w.heap.size ≤ g6 := by omega
  have HZ : Hid ((List.replicate 16 0).length = 16) := rfl
  have hst : StartInv w w.heap.size (w.heap.size + 1) g6 g7 key nonce (mix S (List.replicate 16 0) 0) w2 := by
    have f12 := hF1.trans hF2 (fun _ _ h => h)
    exact ⟨hBK.frm f12 (fun h => h), hBN.frm f12 (fun h => h), hB1.frm hF2 (fun h => h), by rw [mix_zero]; exact hB2, hF02.below (Nat.le_refl _) (fun _ h => h.elim)⟩
  have HML : Hid (∀ k, (mix S (List.replicate 16 0) k).length = 16) := fun k => by rw [mix_length _ _ _ (by rw [HSL.out]; rfl)]; rfl
  have HMS : Hid (∀ k x, k < 16 → S[k]? = some x → (mix S (List.replicate 16 0) k).set k x = mix S (List.replicate 16 0) (k + 1)) := fun k x hk hx => mix_set _ _ _ _ (by rw [HSL.out]; rfl) (by rw [List.length_replicate]; exact hk) hx
  clear hB1 hB2 hF1 hF2 hF01 hF02 hF0 hBK hBN hs1 hs2 HCE hk1 hn1 hsz
  obtain ⟨gk, hgk⟩ : ∃ gk, gk = w.heap.size := ⟨_, rfl⟩
  obtain ⟨gn, hgn⟩ : ∃ gn, gn = w.heap.size + 1 := ⟨_, rfl⟩
  rw [← hgn] at hst hne2 ⊢
  rw [← hgk] at hst hne1 ⊢
  have HST := hide hst
  clear hst hgn
  have HGK := hide hgk
  clear hgk
  go_loopw [13] (fun i wr => ∃ k : Nat, k ≤ 4 ∧ i = .int .i64 k ∧ StartInv w gk gn g6 g7 key nonce (mix S (List.replicate 16 0) k) wr) (fun i _ => 4 - (intOf i).toNat)
  case atStart => exact ⟨0, by omega, rfl, HST.out⟩
  case round =>
    clear HST
    obtain ⟨k, hk, rfl, hi⟩ := hrel
    by_cases hlt : k < 4
    · have hidx := HIX.out k hlt
      have hset := HMS.out k _ (by omega) (HF.out k hlt)
      obtain ⟨x, hx⟩ : ∃ x, x = fl.getD k 0 := ⟨_, rfl⟩
      rw [← hx] at hidx hset
      obtain ⟨vo, hvo⟩ := hi.room (HML.out k) k (by omega)
      have q1 : wr.cell? ⟨g7, k, none⟩ = some vo := (hvo 0).1
      have q2 : wr.frozen? ⟨g7, k, none⟩ = false := (hvo 0).2
      have FIN : Hid (StartInv w gk gn g6 g7 key nonce (mix S (List.replicate 16 0) (k + 1)) (wr.setCell ⟨g7, k, none⟩ (.int .u32 (x : Int)))) := by
        have := hi.set hne1 hne2 hne3 hge 0 k x
        rw [hset] at this
        exact this
      clear hset hvo hx hi
      go_wp2_with fail
      go_roundw
      case rel => first | exact ⟨k + 1, by omega, by go_num, FIN.out⟩ | ((repeat apply Exists.intro); exact ⟨⟨k + 1, by omega, by go_num, FIN.out⟩, rfl⟩)
      case measure => simp [intOf]; omega
    · obtain rfl : k = 4 := by omega
      have HST := hide hi
      clear hi
      go_wp2_with fail
      go_loopw [21] (fun i wr => ∃ k : Nat, k ≤ 8 ∧ i = .int .i64 k ∧ StartInv w gk gn g6 g7 key nonce (mix S (List.replicate 16 0) (4 + k)) wr) (fun i _ => 8 - (intOf i).toNat)
      case atStart => exact ⟨0, by omega, rfl, HST.out⟩
      case round =>
        clear HST
        obtain ⟨k, hk, rfl, hi⟩ := hrel
        by_cases hlt : k < 8
        · have hc : ∀ j, 4 * k + j < 32 → wr.cell? ⟨gk, 4 * k + j, none⟩ = some (.int .u8 ((key.getD (4 * k + j) 0).toNat : Int)) := by
            intro j hj
            rw [hi.key.cell, List.getElem?_toArray]
            exact getD_byte _ _ (by rw [HKL.out]; exact hj)
          have h0 := hc 0 (by omega)
          have h1 := hc 1 (by omega)
          have h2 := hc 2 (by omega)
          have h3 := hc 3 (by omega)
          have hset := HMS.out (4 + k) _ (by omega) (HK.out k hlt)
          simp only [Nat.add_zero] at h0
          clear hc
          generalize key.getD (4 * k) 0 = b0 at *
          generalize key.getD (4 * k + 1) 0 = b1 at *
          generalize key.getD (4 * k + 2) 0 = b2 at *
          generalize key.getD (4 * k + 3) 0 = b3 at *
          obtain ⟨vo, hvo⟩ := hi.room (HML.out (4 + k)) (4 + k) (by omega)
          have FIN : Hid (∀ q, StartInv w gk gn g6 g7 key nonce (mix S (List.replicate 16 0) (4 + (k + 1))) ((wr.drewN q).setCell ⟨g7, 4 + k, none⟩ (.int .u32 (lowN [b0, b1, b2, b3] : Nat)))) := fun q => by
            have := hi.set hne1 hne2 hne3 hge q (4 + k) (lowN [b0, b1, b2, b3])
            rw [hset] at this
            exact this
          have VO := hide hvo
          have hsl : ∀ w, Sem.run Tryz.prog (Instr.sliceAt 26 (.pointer (some ⟨gk, 0, none⟩)) (some (.int .i64 (4 * (k : Int)))) none none) w = .ok (.slice (some ⟨gk, 4 * k, none⟩) (32 - 4 * k) (32 - 4 * k)) w := fun w => by
            have := run_slice_arr (P := Tryz.prog) (t := 26) (e := 5) (N := 32) underK32 size8 gk 0 .i64 (4 * k) (by omega) w
            simpa using this
          have H0 := hide h0
          have H1 := hide h1
          have H2 := hide h2
          have H3 := hide h3
          clear hset hvo hi h0 h1 h2 h3
          go_wp2_with fail
          refine (cnumber_any gk (4 * k) (32 - 4 * k) (32 - 4 * k) b0 b1 b2 b3 wr (by omega) (by omega) H0.out H1.out H2.out H3.out).mono ?_
          rintro e w4 ⟨rfl, q, rfl⟩
          obtain ⟨q1, q2⟩ := VO.out q
          have FQ := hide (FIN.out q)
          generalize lowN [b0, b1, b2, b3] = nn at *
          go_wp2_with fail
          go_roundw
          case rel => first | exact ⟨k + 1, by omega, by go_num, FQ.out⟩ | ((repeat apply Exists.intro); exact ⟨⟨k + 1, by omega, by go_num, FQ.out⟩, rfl⟩)
          case measure => simp [intOf]; omega
        · obtain rfl : k = 8 := by omega
          obtain ⟨vo, hvo⟩ := hi.room (HML.out 12) 12 (by omega)
          have q1 : wr.cell? ⟨g7, 12, none⟩ = some vo := (hvo 0).1
          have q2 : wr.frozen? ⟨g7, 12, none⟩ = false := (hvo 0).2
          have HST : Hid (StartInv w gk gn g6 g7 key nonce (mix S (List.replicate 16 0) (13 + 0)) (wr.setCell ⟨g7, 12, none⟩ (.int .u32 (ctr : Int)))) := by
            have := hi.set hne1 hne2 hne3 hge 0 12 ctr
            rw [HMS.out 12 ctr (by omega) HC.out] at this
            exact this
          clear hi hvo
          go_wp2_with fail
          go_loopw [34] (fun i wr => ∃ k : Nat, k ≤ 3 ∧ i = .int .i64 k ∧ StartInv w gk gn g6 g7 key nonce (mix S (List.replicate 16 0) (13 + k)) wr) (fun i _ => 3 - (intOf i).toNat)
          case atStart => exact ⟨0, by omega, rfl, HST.out⟩
          case round =>
            clear HST q1 q2
            obtain ⟨k, hk, rfl, hi⟩ := hrel
            by_cases hlt : k < 3
            · have hc : ∀ j, 4 * k + j < 12 → wr.cell? ⟨gn, 4 * k + j, none⟩ = some (.int .u8 ((nonce.getD (4 * k + j) 0).toNat : Int)) := by
                intro j hj
                rw [hi.nonce.cell, List.getElem?_toArray]
                exact getD_byte _ _ (by rw [HNL.out]; exact hj)
              have h0 := hc 0 (by omega)
              have h1 := hc 1 (by omega)
              have h2 := hc 2 (by omega)
              have h3 := hc 3 (by omega)
              have hset := HMS.out (13 + k) _ (by omega) (HN.out k hlt)
              simp only [Nat.add_zero] at h0
              clear hc
              generalize nonce.getD (4 * k) 0 = b0 at *
              generalize nonce.getD (4 * k + 1) 0 = b1 at *
              generalize nonce.getD (4 * k + 2) 0 = b2 at *
              generalize nonce.getD (4 * k + 3) 0 = b3 at *
              obtain ⟨vo, hvo⟩ := hi.room (HML.out (13 + k)) (13 + k) (by omega)
              have FIN : Hid (∀ q, StartInv w gk gn g6 g7 key nonce (mix S (List.replicate 16 0) (13 + (k + 1))) ((wr.drewN q).setCell ⟨g7, 13 + k, none⟩ (.int .u32 (lowN [b0, b1, b2, b3] : Nat)))) := fun q => by
                have := hi.set hne1 hne2 hne3 hge q (13 + k) (lowN [b0, b1, b2, b3])
                rw [hset] at this
                exact this
              have VO := hide hvo
              have hsl : ∀ w, Sem.run Tryz.prog (Instr.sliceAt 103 (.pointer (some ⟨gn, 0, none⟩)) (some (.int .i64 (4 * (k : Int)))) none none) w = .ok (.slice (some ⟨gn, 4 * k, none⟩) (12 - 4 * k) (12 - 4 * k)) w := fun w => by
                have := run_slice_arr (P := Tryz.prog) (t := 103) (e := 5) (N := 12) under12 size8 gn 0 .i64 (4 * k) (by omega) w
                simpa using this
              have H0 := hide h0
              have H1 := hide h1
              have H2 := hide h2
              have H3 := hide h3
              clear hset hvo hi h0 h1 h2 h3
              go_wp2_with fail
              refine (cnumber_any gn (4 * k) (12 - 4 * k) (12 - 4 * k) b0 b1 b2 b3 wr (by omega) (by omega) H0.out H1.out H2.out H3.out).mono ?_
              rintro e w4 ⟨rfl, q, rfl⟩
              obtain ⟨q1, q2⟩ := VO.out q
              have FQ := hide (FIN.out q)
              generalize lowN [b0, b1, b2, b3] = nn at *
              go_wp2_with fail
              go_roundw
              case rel => first | exact ⟨k + 1, by omega, by go_num, FQ.out⟩ | ((repeat apply Exists.intro); exact ⟨⟨k + 1, by omega, by go_num, FQ.out⟩, rfl⟩)
              case measure => simp [intOf]; omega
            · obtain rfl : k = 3 := by omega
              have hb := hi.blk
              rw [mix_all _ _ _ (by rw [HSL.out]; rfl) (by rw [List.length_replicate]; omega)] at hb
              have HL : Hid ((cellsW S).length = 16) := by show _ = _; rw [cellsW_length, HSL.out]
              have HX : Hid (((cellsW S).drop 0).take 16 = cellsW S) := by show _ = _; rw [List.drop_zero, List.take_of_length_le (by rw [HL.out]; exact Nat.le_refl _)]
              have hres := hi.res
              have hbel := hi.below
              clear hi
              go_wp2_with (first
                | (with_reducible refine wpl_loada (op := ⟨some 45, _, _, _, _, _⟩) agg16w rfl _ rfl g7 0 rfl _ _ _ hb HX.out (by rw [HL.out]; exact Nat.le_refl _) ?_)
                | ((with_reducible refine wpl_storea agg16w rfl (.tmp 6) (.tmp 45) rfl g6 (cellsW S) rfl rfl _ _ hres HL.out (by simp [cellsW]) (cellsW_one _) ?_); intro w4 hB4 hF4))
              refine ret_agg agg16w rfl rfl g6 _ _ rfl hB4 HL.out ⟨rfl, below_frm hbel hF4 hbel.size (by intro i hi; omega)⟩
def qAt (k i : Nat) : Nat := quartersL.getD (4 * k + i) 0
def setQ (L : List Nat) (a b c d : Nat) : List Nat :=
  (((L.set a (Q4.mk (L.getD a 0) (L.getD b 0) (L.getD c 0) (L.getD d 0)).two.a).set b (Q4.mk (L.getD a 0) (L.getD b 0) (L.getD c 0) (L.getD d 0)).two.b).set c (Q4.mk (L.getD a 0) (L.getD b 0) (L.getD c 0) (L.getD d 0)).two.c).set d (Q4.mk (L.getD a 0) (L.getD b 0) (L.getD c 0) (L.getD d 0)).two.d
def eightL (s : List Nat) : Nat → List Nat
  | 0 => s
  | k + 1 => setQ (eightL s k) (qAt k 0) (qAt k 1) (qAt k 2) (qAt k 3)
def mixL (s : List Nat) : Nat → List Nat
  | 0 => s
  | n + 1 => eightL (mixL s n) 8
theorem setQ_length (L : List Nat) (a b c d : Nat) : (setQ L a b c d).length = L.length := by simp only [setQ, List.length_set]
theorem eightL_length (s : List Nat) (k : Nat) : (eightL s k).length = s.length := by
  induction k with
  | zero => rfl
  | succ k ih => rw [eightL, setQ_length, ih]
theorem mixL_length (s : List Nat) (k : Nat) : (mixL s k).length = s.length := by
  induction k with
  | zero => rfl
  | succ k ih => rw [mixL, eightL_length, ih]
theorem Ws.set {l : List Nat} (h : Ws l) (k x : Nat) (hx : x < 4294967296) : Ws (l.set k x) := fun y hy => by
  rcases List.mem_or_eq_of_mem_set hy with h1 | rfl
  · exact h y h1
  · exact hx
theorem Q4.of_ok {l : List Nat} (h : Ws l) (a b c d : Nat) : (Q4.mk (l.getD a 0) (l.getD b 0) (l.getD c 0) (l.getD d 0)).ok := ⟨h.get a, h.get b, h.get c, h.get d⟩
theorem setQ_ws {l : List Nat} (h : Ws l) (a b c d : Nat) : Ws (setQ l a b c d) :=
  have o := (Q4.of_ok h a b c d).two
  (((h.set a _ o.a).set b _ o.b).set c _ o.c).set d _ o.d
theorem eightL_ws {l : List Nat} (h : Ws l) (k : Nat) : Ws (eightL l k) := by
  induction k with
  | zero => exact h
  | succ k ih => exact setQ_ws ih _ _ _ _
theorem mixL_ws {l : List Nat} (h : Ws l) (k : Nat) : Ws (mixL l k) := by
  induction k with
  | zero => exact h
  | succ k ih => exact eightL_ws ih _
theorem quarter_set (L : List Nat) (h : L.length = 16) (k : Nat) (hk : k < 8) : quarterL L (qAt k 0) (qAt k 1) (qAt k 2) (qAt k 3) = setQ L (qAt k 0) (qAt k 1) (qAt k 2) (qAt k 3) := by
  match L, h with
  | [x0, x1, x2, x3, x4, x5, x6, x7, x8, x9, x10, x11, x12, x13, x14, x15], _ =>
    match k, hk with
    | 0, _ =>
      show quarterL _ 0 4 8 12 = setQ _ 0 4 8 12
      simp only [quarterL, qAdd, qTurn, setQ, Q4.two, Q4.one, List.set_cons_zero, List.set_cons_succ, List.getD_cons_zero, List.getD_cons_succ]
    | 1, _ =>
      show quarterL _ 1 5 9 13 = setQ _ 1 5 9 13
      simp only [quarterL, qAdd, qTurn, setQ, Q4.two, Q4.one, List.set_cons_zero, List.set_cons_succ, List.getD_cons_zero, List.getD_cons_succ]
    | 2, _ =>
      show quarterL _ 2 6 10 14 = setQ _ 2 6 10 14
      simp only [quarterL, qAdd, qTurn, setQ, Q4.two, Q4.one, List.set_cons_zero, List.set_cons_succ, List.getD_cons_zero, List.getD_cons_succ]
    | 3, _ =>
      show quarterL _ 3 7 11 15 = setQ _ 3 7 11 15
      simp only [quarterL, qAdd, qTurn, setQ, Q4.two, Q4.one, List.set_cons_zero, List.set_cons_succ, List.getD_cons_zero, List.getD_cons_succ]
    | 4, _ =>
      show quarterL _ 0 5 10 15 = setQ _ 0 5 10 15
      simp only [quarterL, qAdd, qTurn, setQ, Q4.two, Q4.one, List.set_cons_zero, List.set_cons_succ, List.getD_cons_zero, List.getD_cons_succ]
    | 5, _ =>
      show quarterL _ 1 6 11 12 = setQ _ 1 6 11 12
      simp only [quarterL, qAdd, qTurn, setQ, Q4.two, Q4.one, List.set_cons_zero, List.set_cons_succ, List.getD_cons_zero, List.getD_cons_succ]
    | 6, _ =>
      show quarterL _ 2 7 8 13 = setQ _ 2 7 8 13
      simp only [quarterL, qAdd, qTurn, setQ, Q4.two, Q4.one, List.set_cons_zero, List.set_cons_succ, List.getD_cons_zero, List.getD_cons_succ]
    | 7, _ =>
      show quarterL _ 3 4 9 14 = setQ _ 3 4 9 14
      simp only [quarterL, qAdd, qTurn, setQ, Q4.two, Q4.one, List.set_cons_zero, List.set_cons_succ, List.getD_cons_zero, List.getD_cons_succ]
theorem down_eight (s : List Nat) (h : s.length = 16) (k : Nat) (hk : k ≤ 4) : downL s k = eightL s k := by
  induction k with
  | zero => rfl
  | succ k ih =>
    rw [downL, eightL, ih (by omega), ← quarter_set _ (by rw [eightL_length, h]) k (by omega)]
    match k, hk with
    | 0, _ => rfl
    | 1, _ => rfl
    | 2, _ => rfl
    | 3, _ => rfl
theorem slant_eight (s : List Nat) (h : s.length = 16) (k : Nat) (hk : k ≤ 4) : slantL (eightL s 4) k = eightL s (4 + k) := by
  induction k with
  | zero => rfl
  | succ k ih =>
    rw [slantL, ih (by omega)]
    show _ = setQ (eightL s (4 + k)) (qAt (4 + k) 0) (qAt (4 + k) 1) (qAt (4 + k) 2) (qAt (4 + k) 3)
    rw [← quarter_set _ (by rw [eightL_length, h]) (4 + k) (by omega)]
    match k, hk with
    | 0, _ => rfl
    | 1, _ => rfl
    | 2, _ => rfl
    | 3, _ => rfl
theorem mixL_eq (s : List Nat) (h : s.length = 16) (n : Nat) : mixL s n = tensL s n := by
  induction n with
  | zero => rfl
  | succ n ih => rw [mixL, tensL, ih, down_eight _ (by rw [tensL_length, h]) 4 (by omega), slant_eight _ (by rw [tensL_length, h]) 4 (by omega)]
theorem qAt_lt (k i : Nat) (hk : k < 8) (hi : i < 4) : qAt k i < 16 := by
  have all : ∀ (k : Fin 8) (i : Fin 4), qAt k.val i.val < 16 := by decide
  exact all ⟨k, hk⟩ ⟨i, hi⟩
theorem blk_some {w : World} {g : Nat} {t : TypeId} {l : List Nat} (h : Blk w g t (cellsW l).toArray) (k : Nat) (hl : l.length = 16) (hk : k < 16) : ∃ v, w.cell? ⟨g, k, none⟩ = some v := by
  refine ⟨(cellsW l)[k]'(by rw [cellsW_length]; omega), ?_⟩
  rw [h.cell, List.getElem?_toArray, List.getElem?_eq_getElem (by rw [cellsW_length]; omega)]
theorem agg4i : Agg Tryz.prog 178 4 := Agg.of (by kernel_rfl) (by kernel_rfl)
theorem agg32i : Agg Tryz.prog 179 32 := Agg.of (by kernel_rfl) (by kernel_rfl)
theorem zero4i : (Tryz.prog.info? 178).map (fun i => i.zero) = some (some (.agg (cellsI (List.replicate 4 0)).toArray)) := by kernel_rfl
theorem under8i : Tryz.prog.underlying 179 = some (.array 8 178) := by kernel_rfl
theorem under4i : Tryz.prog.underlying 178 = some (.array 4 3) := by kernel_rfl
theorem size4i : (Tryz.prog.info? 178).map (·.size) = some 4 := by kernel_rfl
/-- An element of an array of arrays. -/
theorem index_row (ql : List Nat) (hl : ql.length = 32) (k : Nat) (hk : k < 8) (w : World) :
    Sem.run Tryz.prog (Instr.index 179 (.agg (cellsI ql).toArray) (.int .i64 (k : Int))) w = .ok (.agg (cellsI [ql.getD (4 * k + 0) 0, ql.getD (4 * k + 1) 0, ql.getD (4 * k + 2) 0, ql.getD (4 * k + 3) 0]).toArray) w := by
  have hi := size4i
  cases hq : Tryz.prog.info? 178 with
  | none => simp [hq] at hi
  | some d =>
    have hs : d.size = 4 := by simpa [hq] using hi
    have h4 : ((cellsI ql).drop (k * 4)).take 4 = cellsI [ql.getD (4 * k + 0) 0, ql.getD (4 * k + 1) 0, ql.getD (4 * k + 2) 0, ql.getD (4 * k + 3) 0] := by
      apply List.ext_getElem?
      intro j
      rw [List.getElem?_take, List.getElem?_drop]
      have hlen : (cellsI ql).length = 32 := by rw [cellsI_length, hl]
      by_cases hj : j < 4
      · rw [if_pos (by omega), cellsI_at _ _ (by omega)]
        match j, hj with
        | 0, _ => simp [cellsI, Nat.mul_comm]
        | 1, _ => simp [cellsI, Nat.mul_comm]
        | 2, _ => simp [cellsI, Nat.mul_comm]
        | 3, _ => simp [cellsI, Nat.mul_comm]
      · rw [if_neg (by omega), List.getElem?_eq_none (by rw [cellsI_length]; simp; omega)]
    have hkk : (k : Int) < 8 := by omega
    simp [Instr.index, asIntOf, run_underlying under8i, hk, part, isAgg, run_underlying under4i, sizeOf, typeInfo, hq, hs]
    simpa using h4
structure MixInv (w : World) (g1 g2 : Nat) (l : List Nat) (wr : World) : Prop where
  blk : Blk wr g1 160 (cellsW l).toArray
  res : Blk wr g2 160 (cellsW (List.replicate 16 0)).toArray
  gc : Gc wr
  below : Below w.heap.size w wr
set_option maxHeartbeats 8000000 in
set_option maxRecDepth 100000 in
theorem mixed_any (s : List Nat) (w : World) (hG : Gc w) (hl : s.length = 16) (hs : Ws s) (hg0 : 4 ≤ w.heap.size) :
    Calls Tryz.prog 95 #[.agg (cellsW s).toArray] w fun e w' => e = .returned (.agg (cellsW (mixL s 10)).toArray) ∧ Below w.heap.size w w' := by
  have hF0 : Frm (fun _ => False) w (w.alloc (.cells (cellsW s).toArray 160)) := Frm.alloc _ _ _
  have hB0 := Blk.new w 160 (cellsW s).toArray
  obtain ⟨ql, hql⟩ : ∃ ql, ql = quartersL := ⟨_, rfl⟩
  have HQL : Hid (ql.length = 32) := by rw [hql]; rfl
  have HQC : Hid ((cellsI ql).length = 32) := by show _ = _; rw [cellsI_length, HQL.out]
  have HQA : Hid (∀ k i, ql.getD (4 * k + i) 0 = qAt k i) := by rw [hql]; exact fun _ _ => rfl
  have HCE : Hid (∀ w', Gc w' → ∀ j v, (cellsI ql)[j]? = some v → w'.cell? ⟨1, j, none⟩ = some v) := by
    intro w' f j v hv
    have hj : j < 32 := by have := (List.getElem?_eq_some_iff.1 hv).1; rw [HQC.out] at this; exact this
    rw [cellsI_at ql j (by rw [hql]; exact hj), hql] at hv
    rw [← hv]
    exact f.quarters j hj
  have HIX : Hid (∀ (k : Nat), k < 8 → ∀ w, Sem.run Tryz.prog (Instr.index 179 (.agg (cellsI ql).toArray) (.int .i64 (k : Int))) w = .ok (.agg (cellsI [qAt k 0, qAt k 1, qAt k 2, qAt k 3]).toArray) w) := by
    intro k hk w
    have := index_row ql HQL.out k hk w
    simp only [HQA.out] at this
    exact this
  obtain ⟨M, hM⟩ : ∃ M, M = mixL s := ⟨_, rfl⟩
  have HM0 : Hid (M 0 = s) := by rw [hM]; rfl
  have HML : Hid (∀ k, (M k).length = 16) := by rw [hM]; intro k; rw [mixL_length, hl]
  have HMW : Hid (∀ k, Ws (M k)) := by rw [hM]; exact fun k => mixL_ws hs _
  have HMN : Hid (∀ k, M (k + 1) = eightL (M k) 8) := by rw [hM]; intro k; rw [mixL]
  rw [← hM]
  clear hl hs hql hM
  go_enter Tryz.func95, Tryz.ntmps95
  go_wp2_with ((with_reducible refine wpl_alloca (op := ⟨some 2, _, _, _, _, _⟩) rfl _ rfl _ zero16w ?_); intro g2 w1 hB1 hs1 hF1)
  have hF01 := hF0.trans hF1 (fun _ _ h => h)
  have hne : w.heap.size ≠ g2 := by have := hB0.lt; omega
  have hge : w.heap.size ≤ g2 := by have := hF0.size; omega
  have HST : Hid (MixInv w w.heap.size g2 (M 0) w1) := ⟨by rw [HM0.out]; exact hB0.frm hF1 (fun h => h), hB1, hG.frm0 hF01, hF01.below (Nat.le_refl _) (fun _ h => h.elim)⟩
  clear hF0 hB0 hB1 hF1 hF01 hG hs1
  obtain ⟨g1, hg1⟩ : ∃ g1, g1 = w.heap.size := ⟨_, rfl⟩
  rw [← hg1] at HST hne ⊢
  have HG1 := hide hg1
  have hgw : 2 ≤ g1 := by omega
  have hgw2 : 2 ≤ g2 := by omega
  clear hg1
  go_loopw [9] (fun i wr => ∃ k : Nat, k ≤ 10 ∧ i = .int .i64 k ∧ MixInv w g1 g2 (M k) wr) (fun i _ => 10 - (intOf i).toNat)
  case atStart => exact ⟨0, by omega, rfl, HST.out⟩
  case round =>
    clear HST
    obtain ⟨k, hk, rfl, hi⟩ := hrel
    by_cases hlt : k < 10
    · have HCE2 := hide (HCE.out wr hi.gc)
      obtain ⟨E8, hE⟩ : ∃ E8 : Nat → List Nat, E8 = eightL (M k) := ⟨_, rfl⟩
      have HEL : Hid (∀ j, (E8 j).length = 16) := by rw [hE]; intro j; rw [eightL_length, HML.out]
      have HEW : Hid (∀ j, Ws (E8 j)) := by rw [hE]; exact fun j => eightL_ws (HMW.out k) _
      have HEN : Hid (∀ j, E8 (j + 1) = setQ (E8 j) (qAt j 0) (qAt j 1) (qAt j 2) (qAt j 3)) := by rw [hE]; intro j; rw [eightL]
      have HE8 : Hid (M (k + 1) = E8 8) := by show _ = _; rw [hE]; exact HMN.out k
      have HST : Hid (MixInv w g1 g2 (E8 0) wr) := by rw [hE]; exact hi
      clear hi hE
      go_wp2_with (with_reducible refine wpl_load_at (op := ⟨some 11, _, _, _, _, _⟩) agg32i rfl _ rfl 1 rfl (cellsI ql) HQC.out HCE2.out ?_)
      clear HCE2
      go_loopw [12] (fun i wr => ∃ j : Nat, j ≤ 8 ∧ i = .int .i64 j ∧ MixInv w g1 g2 (E8 j) wr) (fun i _ => 8 - (intOf i).toNat)
      case atStart => exact ⟨0, by omega, rfl, HST.out⟩
      case round =>
        clear HST
        obtain ⟨j, hj, rfl, hi⟩ := hrel
        by_cases hjt : j < 8
        · have hidx := HIX.out j hjt
          have HEJ : Hid (E8 (j + 1) = setQ (E8 j) (qAt j 0) (qAt j 1) (qAt j 2) (qAt j 3)) := HEN.out j
          have ha := qAt_lt j 0 hjt (by omega)
          have hb := qAt_lt j 1 hjt (by omega)
          have hc := qAt_lt j 2 hjt (by omega)
          have hd := qAt_lt j 3 hjt (by omega)
          have hl16 : (E8 j).length = 16 := HEL.out j
          have HOK := hide (Q4.of_ok (HEW.out j) (qAt j 0) (qAt j 1) (qAt j 2) (qAt j 3))
          generalize E8 j = E at *
          generalize qAt j 0 = qa at *
          generalize qAt j 1 = qb at *
          generalize qAt j 2 = qc at *
          generalize qAt j 3 = qd at *
          have HI := hide hi
          have HR : Hid ((cellsI [qa, qb, qc, qd]).length = 4) := rfl
          clear hi
          go_wp2_with (first
            | ((with_reducible refine wpl_alloca (op := ⟨some 4, _, _, _, _, _⟩) rfl _ rfl _ zero4i ?_); intro g4 wa hBa hsa hFa)
            | ((with_reducible refine wpl_storea agg4i rfl (.tmp 4) (.tmp 14) rfl g4 (cellsI [qa, qb, qc, qd]) rfl rfl _ _ hBa HR.out (by simp [cellsI]) (cellsI_one _) ?_); intro wb hBb hFb))
          have hr1 := HI.out.blk.lt
          have hr2 := HI.out.res.lt
          have hrs := HI.out.below.size
          have hFab : Frm (fun i => i = g4) wr wb := (hFa.mono (T := fun i => i = g4) (fun _ _ h => h.elim)).trans hFb (fun _ _ h => h)
          have HI2 : Hid (MixInv w g1 g2 E wb) := ⟨HI.out.blk.frm hFab (by omega), HI.out.res.frm hFab (by omega), HI.out.gc.frm hFab (by omega) (by omega), below_frm HI.out.below hFab HI.out.below.size (fun i hi => by omega)⟩
          have c0 : ∀ q, (wb.drewN q).cell? ⟨g4, 0, none⟩ = some (.int .i64 (qa : Int)) := fun q => hBb.cell 0
          have c1 : ∀ q, (wb.drewN q).cell? ⟨g4, 1, none⟩ = some (.int .i64 (qb : Int)) := fun q => hBb.cell 1
          have c2 : ∀ q, (wb.drewN q).cell? ⟨g4, 2, none⟩ = some (.int .i64 (qc : Int)) := fun q => hBb.cell 2
          have c3 : ∀ q, (wb.drewN q).cell? ⟨g4, 3, none⟩ = some (.int .i64 (qd : Int)) := fun q => hBb.cell 3
          clear HI hBa hBb hFa hFb hFab hsa hr1 hr2 hrs
          go_quiet (fail)
          go_wp2_with fail
          refine wp_region_held_drew (S := fun _ => True) (by kernel_rfl) (True.intro) ?_
          intro hHeld
          obtain ⟨W0, hW0⟩ : ∃ W0, W0 = (wb.drewN nq).drew := ⟨_, rfl⟩
          have FW : Frm (fun _ => False) wb W0 := by rw [hW0]; exact ((Frm.refl _ _).drewN nq).drew
          have X1 : Blk W0 g1 160 (cellsW E).toArray := HI2.out.blk.frm FW (fun h => h)
          have HI3 : Hid (MixInv w g1 g2 E W0) := ⟨X1, HI2.out.res.frm FW (fun h => h), HI2.out.gc.frm0 FW, below_frm HI2.out.below FW HI2.out.below.size (fun _ h => h.elim)⟩
          rw [← hW0]
          have la : W0.cell? ⟨g1, qa, none⟩ = some (.int .u32 ((E.getD qa 0 : Nat) : Int)) := by rw [X1.cell, List.getElem?_toArray]; exact cellsW_at _ _ (by omega)
          have lb : W0.cell? ⟨g1, qb, none⟩ = some (.int .u32 ((E.getD qb 0 : Nat) : Int)) := by rw [X1.cell, List.getElem?_toArray]; exact cellsW_at _ _ (by omega)
          have lc : W0.cell? ⟨g1, qc, none⟩ = some (.int .u32 ((E.getD qc 0 : Nat) : Int)) := by rw [X1.cell, List.getElem?_toArray]; exact cellsW_at _ _ (by omega)
          have ld : W0.cell? ⟨g1, qd, none⟩ = some (.int .u32 ((E.getD qd 0 : Nat) : Int)) := by rw [X1.cell, List.getElem?_toArray]; exact cellsW_at _ _ (by omega)
          unfold setQ at HEJ
          have ha' : (qa : Int) < 16 := by omega
          have hb' : (qb : Int) < 16 := by omega
          have hc' : (qc : Int) < 16 := by omega
          have hd' : (qd : Int) < 16 := by omega
          clear hW0 FW HI2 c0 c1 c2 c3
          generalize E.getD qa 0 = xa at *
          generalize E.getD qb 0 = xb at *
          generalize E.getD qc 0 = xc at *
          generalize E.getD qd 0 = xd at *
          refine tkH 0 (v := ?v1) rfl ?hy1 ?rest1
          case hy1 => (intro w hSw; (try dsimp only at hSw); go_simp; try with_reducible rfl)
          try simp only [Act.put, PTs]
          refine tkH 1 (v := ?v2) rfl ?hy2 ?rest2
          case hy2 => (intro w hSw; (try dsimp only at hSw); go_simp; try with_reducible rfl)
          try simp only [Act.put, PTs]
          refine tkH 2 (v := ?v3) rfl ?hy3 ?rest3
          case hy3 => (intro w hSw; (try dsimp only at hSw); go_simp; try with_reducible rfl)
          try simp only [Act.put, PTs]
          refine tkH 3 (v := ?v4) rfl ?hy4 ?rest4
          case hy4 => (intro w hSw; (try dsimp only at hSw); go_simp; try with_reducible rfl)
          try simp only [Act.put, PTs]
          refine tkH 4 (v := ?v5) rfl ?hy5 ?rest5
          case hy5 => (intro w hSw; (try dsimp only at hSw); go_simp; try with_reducible rfl)
          try simp only [Act.put, PTs]
          refine tkH 5 (v := ?v6) rfl ?hy6 ?rest6
          case hy6 => (intro w hSw; (try dsimp only at hSw); go_simp; try with_reducible rfl)
          try simp only [Act.put, PTs]
          refine tkH 7 (v := ?v7) rfl ?hy7 ?rest7
          case hy7 => (intro w hSw; (try dsimp only at hSw); go_simp; try with_reducible rfl)
          try simp only [Act.put, PTs]
          refine tkH 8 (v := ?v8) rfl ?hy8 ?rest8
          case hy8 => (intro w hSw; (try dsimp only at hSw); go_simp; try with_reducible rfl)
          try simp only [Act.put, PTs]
          refine tkH 10 (v := ?v9) rfl ?hy9 ?rest9
          case hy9 => (intro w hSw; (try dsimp only at hSw); go_simp; try with_reducible rfl)
          try simp only [Act.put, PTs]
          refine tkH 11 (v := ?v10) rfl ?hy10 ?rest10
          case hy10 => (intro w hSw; (try dsimp only at hSw); go_simp; try with_reducible rfl)
          try simp only [Act.put, PTs]
          refine tkH 13 (v := ?v11) rfl ?hy11 ?rest11
          case hy11 => (intro w hSw; (try dsimp only at hSw); go_simp; try with_reducible rfl)
          try simp only [Act.put, PTs]
          refine tkH 14 (v := ?v12) rfl ?hy12 ?rest12
          case hy12 => (intro w hSw; (try dsimp only at hSw); go_simp; try with_reducible rfl)
          try simp only [Act.put, PTs]
          refine wpAnyH_ready (rs := [6, 9, 12, 15]) (by kernel_rfl) (by simp) ?_
          refine AllReadyH.cons rfl (fun K hK => ?_) ?_
          go_simp
          refine hK.out _ _ (True.intro) (fun hHeld => ?_)
          clear hK K
          clear hHeld
          try simp only [Act.put, PTs]
          refine wpAnyH_ready (rs := [9, 12, 15]) (by kernel_rfl) (by simp) ?_
          refine AllReadyH.cons rfl (fun K hK => ?_) ?_
          go_simp
          refine hK.out _ _ (True.intro) (fun hHeld => ?_)
          clear hK K
          clear hHeld
          try simp only [Act.put, PTs]
          refine wpAnyH_ready (rs := [12, 15]) (by kernel_rfl) (by simp) ?_
          refine AllReadyH.cons rfl (fun K hK => ?_) ?_
          go_simp
          refine hK.out _ _ (True.intro) (fun hHeld => ?_)
          clear hK K
          clear hHeld
          try simp only [Act.put, PTs]
          refine rdH 15 rfl (by kernel_rfl) (fun K hK => ?_)
          go_simp
          refine hK.out _ _ (True.intro) (fun hHeld => ?_)
          clear hK K
          clear hHeld
          try simp only [Act.put, PTs]
          refine ?shared
          rotate_left
          refine AllReadyH.cons rfl (fun K hK => ?_) AllReadyH.nil
          go_simp
          refine hK.out _ _ (True.intro) (fun hHeld => ?_)
          clear hK K
          clear hHeld
          try simp only [Act.put, PTs]
          refine rdH 12 rfl (by kernel_rfl) (fun K hK => ?_)
          go_simp
          refine hK.out _ _ (True.intro) (fun hHeld => ?_)
          clear hK K
          clear hHeld
          try simp only [Act.put, PTs]
          exact ?shared
          refine AllReadyH.cons rfl (fun K hK => ?_) ?_
          go_simp
          refine hK.out _ _ (True.intro) (fun hHeld => ?_)
          clear hK K
          clear hHeld
          try simp only [Act.put, PTs]
          refine wpAnyH_ready (rs := [9, 15]) (by kernel_rfl) (by simp) ?_
          refine AllReadyH.cons rfl (fun K hK => ?_) ?_
          go_simp
          refine hK.out _ _ (True.intro) (fun hHeld => ?_)
          clear hK K
          clear hHeld
          try simp only [Act.put, PTs]
          refine rdH 15 rfl (by kernel_rfl) (fun K hK => ?_)
          go_simp
          refine hK.out _ _ (True.intro) (fun hHeld => ?_)
          clear hK K
          clear hHeld
          try simp only [Act.put, PTs]
          exact ?shared
          refine AllReadyH.cons rfl (fun K hK => ?_) AllReadyH.nil
          go_simp
          refine hK.out _ _ (True.intro) (fun hHeld => ?_)
          clear hK K
          clear hHeld
          try simp only [Act.put, PTs]
          refine rdH 9 rfl (by kernel_rfl) (fun K hK => ?_)
          go_simp
          refine hK.out _ _ (True.intro) (fun hHeld => ?_)
          clear hK K
          clear hHeld
          try simp only [Act.put, PTs]
          exact ?shared
          refine AllReadyH.cons rfl (fun K hK => ?_) AllReadyH.nil
          go_simp
          refine hK.out _ _ (True.intro) (fun hHeld => ?_)
          clear hK K
          clear hHeld
          try simp only [Act.put, PTs]
          refine wpAnyH_ready (rs := [9, 12]) (by kernel_rfl) (by simp) ?_
          refine AllReadyH.cons rfl (fun K hK => ?_) ?_
          go_simp
          refine hK.out _ _ (True.intro) (fun hHeld => ?_)
          clear hK K
          clear hHeld
          try simp only [Act.put, PTs]
          refine rdH 12 rfl (by kernel_rfl) (fun K hK => ?_)
          go_simp
          refine hK.out _ _ (True.intro) (fun hHeld => ?_)
          clear hK K
          clear hHeld
          try simp only [Act.put, PTs]
          exact ?shared
          refine AllReadyH.cons rfl (fun K hK => ?_) AllReadyH.nil
          go_simp
          refine hK.out _ _ (True.intro) (fun hHeld => ?_)
          clear hK K
          clear hHeld
          try simp only [Act.put, PTs]
          refine rdH 9 rfl (by kernel_rfl) (fun K hK => ?_)
          go_simp
          refine hK.out _ _ (True.intro) (fun hHeld => ?_)
          clear hK K
          clear hHeld
          try simp only [Act.put, PTs]
          exact ?shared
          refine AllReadyH.cons rfl (fun K hK => ?_) ?_
          go_simp
          refine hK.out _ _ (True.intro) (fun hHeld => ?_)
          clear hK K
          clear hHeld
          try simp only [Act.put, PTs]
          refine wpAnyH_ready (rs := [6, 12, 15]) (by kernel_rfl) (by simp) ?_
          refine AllReadyH.cons rfl (fun K hK => ?_) ?_
          go_simp
          refine hK.out _ _ (True.intro) (fun hHeld => ?_)
          clear hK K
          clear hHeld
          try simp only [Act.put, PTs]
          refine wpAnyH_ready (rs := [12, 15]) (by kernel_rfl) (by simp) ?_
          refine AllReadyH.cons rfl (fun K hK => ?_) ?_
          go_simp
          refine hK.out _ _ (True.intro) (fun hHeld => ?_)
          clear hK K
          clear hHeld
          try simp only [Act.put, PTs]
          refine rdH 15 rfl (by kernel_rfl) (fun K hK => ?_)
          go_simp
          refine hK.out _ _ (True.intro) (fun hHeld => ?_)
          clear hK K
          clear hHeld
          try simp only [Act.put, PTs]
          exact ?shared
          refine AllReadyH.cons rfl (fun K hK => ?_) AllReadyH.nil
          go_simp
          refine hK.out _ _ (True.intro) (fun hHeld => ?_)
          clear hK K
          clear hHeld
          try simp only [Act.put, PTs]
          refine rdH 12 rfl (by kernel_rfl) (fun K hK => ?_)
          go_simp
          refine hK.out _ _ (True.intro) (fun hHeld => ?_)
          clear hK K
          clear hHeld
          try simp only [Act.put, PTs]
          exact ?shared
          refine AllReadyH.cons rfl (fun K hK => ?_) ?_
          go_simp
          refine hK.out _ _ (True.intro) (fun hHeld => ?_)
          clear hK K
          clear hHeld
          try simp only [Act.put, PTs]
          refine wpAnyH_ready (rs := [6, 15]) (by kernel_rfl) (by simp) ?_
          refine AllReadyH.cons rfl (fun K hK => ?_) ?_
          go_simp
          refine hK.out _ _ (True.intro) (fun hHeld => ?_)
          clear hK K
          clear hHeld
          try simp only [Act.put, PTs]
          refine rdH 15 rfl (by kernel_rfl) (fun K hK => ?_)
          go_simp
          refine hK.out _ _ (True.intro) (fun hHeld => ?_)
          clear hK K
          clear hHeld
          try simp only [Act.put, PTs]
          exact ?shared
          refine AllReadyH.cons rfl (fun K hK => ?_) AllReadyH.nil
          go_simp
          refine hK.out _ _ (True.intro) (fun hHeld => ?_)
          clear hK K
          clear hHeld
          try simp only [Act.put, PTs]
          refine rdH 6 rfl (by kernel_rfl) (fun K hK => ?_)
          go_simp
          refine hK.out _ _ (True.intro) (fun hHeld => ?_)
          clear hK K
          clear hHeld
          try simp only [Act.put, PTs]
          exact ?shared
          refine AllReadyH.cons rfl (fun K hK => ?_) AllReadyH.nil
          go_simp
          refine hK.out _ _ (True.intro) (fun hHeld => ?_)
          clear hK K
          clear hHeld
          try simp only [Act.put, PTs]
          refine wpAnyH_ready (rs := [6, 12]) (by kernel_rfl) (by simp) ?_
          refine AllReadyH.cons rfl (fun K hK => ?_) ?_
          go_simp
          refine hK.out _ _ (True.intro) (fun hHeld => ?_)
          clear hK K
          clear hHeld
          try simp only [Act.put, PTs]
          refine rdH 12 rfl (by kernel_rfl) (fun K hK => ?_)
          go_simp
          refine hK.out _ _ (True.intro) (fun hHeld => ?_)
          clear hK K
          clear hHeld
          try simp only [Act.put, PTs]
          exact ?shared
          refine AllReadyH.cons rfl (fun K hK => ?_) AllReadyH.nil
          go_simp
          refine hK.out _ _ (True.intro) (fun hHeld => ?_)
          clear hK K
          clear hHeld
          try simp only [Act.put, PTs]
          refine rdH 6 rfl (by kernel_rfl) (fun K hK => ?_)
          go_simp
          refine hK.out _ _ (True.intro) (fun hHeld => ?_)
          clear hK K
          clear hHeld
          try simp only [Act.put, PTs]
          exact ?shared
          refine AllReadyH.cons rfl (fun K hK => ?_) ?_
          go_simp
          refine hK.out _ _ (True.intro) (fun hHeld => ?_)
          clear hK K
          clear hHeld
          try simp only [Act.put, PTs]
          refine wpAnyH_ready (rs := [6, 9, 15]) (by kernel_rfl) (by simp) ?_
          refine AllReadyH.cons rfl (fun K hK => ?_) ?_
          go_simp
          refine hK.out _ _ (True.intro) (fun hHeld => ?_)
          clear hK K
          clear hHeld
          try simp only [Act.put, PTs]
          refine wpAnyH_ready (rs := [9, 15]) (by kernel_rfl) (by simp) ?_
          refine AllReadyH.cons rfl (fun K hK => ?_) ?_
          go_simp
          refine hK.out _ _ (True.intro) (fun hHeld => ?_)
          clear hK K
          clear hHeld
          try simp only [Act.put, PTs]
          refine rdH 15 rfl (by kernel_rfl) (fun K hK => ?_)
          go_simp
          refine hK.out _ _ (True.intro) (fun hHeld => ?_)
          clear hK K
          clear hHeld
          try simp only [Act.put, PTs]
          exact ?shared
          refine AllReadyH.cons rfl (fun K hK => ?_) AllReadyH.nil
          go_simp
          refine hK.out _ _ (True.intro) (fun hHeld => ?_)
          clear hK K
          clear hHeld
          try simp only [Act.put, PTs]
          refine rdH 9 rfl (by kernel_rfl) (fun K hK => ?_)
          go_simp
          refine hK.out _ _ (True.intro) (fun hHeld => ?_)
          clear hK K
          clear hHeld
          try simp only [Act.put, PTs]
          exact ?shared
          refine AllReadyH.cons rfl (fun K hK => ?_) ?_
          go_simp
          refine hK.out _ _ (True.intro) (fun hHeld => ?_)
          clear hK K
          clear hHeld
          try simp only [Act.put, PTs]
          refine wpAnyH_ready (rs := [6, 15]) (by kernel_rfl) (by simp) ?_
          refine AllReadyH.cons rfl (fun K hK => ?_) ?_
          go_simp
          refine hK.out _ _ (True.intro) (fun hHeld => ?_)
          clear hK K
          clear hHeld
          try simp only [Act.put, PTs]
          refine rdH 15 rfl (by kernel_rfl) (fun K hK => ?_)
          go_simp
          refine hK.out _ _ (True.intro) (fun hHeld => ?_)
          clear hK K
          clear hHeld
          try simp only [Act.put, PTs]
          exact ?shared
          refine AllReadyH.cons rfl (fun K hK => ?_) AllReadyH.nil
          go_simp
          refine hK.out _ _ (True.intro) (fun hHeld => ?_)
          clear hK K
          clear hHeld
          try simp only [Act.put, PTs]
          refine rdH 6 rfl (by kernel_rfl) (fun K hK => ?_)
          go_simp
          refine hK.out _ _ (True.intro) (fun hHeld => ?_)
          clear hK K
          clear hHeld
          try simp only [Act.put, PTs]
          exact ?shared
          refine AllReadyH.cons rfl (fun K hK => ?_) AllReadyH.nil
          go_simp
          refine hK.out _ _ (True.intro) (fun hHeld => ?_)
          clear hK K
          clear hHeld
          try simp only [Act.put, PTs]
          refine wpAnyH_ready (rs := [6, 9]) (by kernel_rfl) (by simp) ?_
          refine AllReadyH.cons rfl (fun K hK => ?_) ?_
          go_simp
          refine hK.out _ _ (True.intro) (fun hHeld => ?_)
          clear hK K
          clear hHeld
          try simp only [Act.put, PTs]
          refine rdH 9 rfl (by kernel_rfl) (fun K hK => ?_)
          go_simp
          refine hK.out _ _ (True.intro) (fun hHeld => ?_)
          clear hK K
          clear hHeld
          try simp only [Act.put, PTs]
          exact ?shared
          refine AllReadyH.cons rfl (fun K hK => ?_) AllReadyH.nil
          go_simp
          refine hK.out _ _ (True.intro) (fun hHeld => ?_)
          clear hK K
          clear hHeld
          try simp only [Act.put, PTs]
          refine rdH 6 rfl (by kernel_rfl) (fun K hK => ?_)
          go_simp
          refine hK.out _ _ (True.intro) (fun hHeld => ?_)
          clear hK K
          clear hHeld
          try simp only [Act.put, PTs]
          exact ?shared
          refine AllReadyH.cons rfl (fun K hK => ?_) AllReadyH.nil
          go_simp
          refine hK.out _ _ (True.intro) (fun hHeld => ?_)
          clear hK K
          clear hHeld
          try simp only [Act.put, PTs]
          refine wpAnyH_ready (rs := [6, 9, 12]) (by kernel_rfl) (by simp) ?_
          refine AllReadyH.cons rfl (fun K hK => ?_) ?_
          go_simp
          refine hK.out _ _ (True.intro) (fun hHeld => ?_)
          clear hK K
          clear hHeld
          try simp only [Act.put, PTs]
          refine wpAnyH_ready (rs := [9, 12]) (by kernel_rfl) (by simp) ?_
          refine AllReadyH.cons rfl (fun K hK => ?_) ?_
          go_simp
          refine hK.out _ _ (True.intro) (fun hHeld => ?_)
          clear hK K
          clear hHeld
          try simp only [Act.put, PTs]
          refine rdH 12 rfl (by kernel_rfl) (fun K hK => ?_)
          go_simp
          refine hK.out _ _ (True.intro) (fun hHeld => ?_)
          clear hK K
          clear hHeld
          try simp only [Act.put, PTs]
          exact ?shared
          refine AllReadyH.cons rfl (fun K hK => ?_) AllReadyH.nil
          go_simp
          refine hK.out _ _ (True.intro) (fun hHeld => ?_)
          clear hK K
          clear hHeld
          try simp only [Act.put, PTs]
          refine rdH 9 rfl (by kernel_rfl) (fun K hK => ?_)
          go_simp
          refine hK.out _ _ (True.intro) (fun hHeld => ?_)
          clear hK K
          clear hHeld
          try simp only [Act.put, PTs]
          exact ?shared
          refine AllReadyH.cons rfl (fun K hK => ?_) ?_
          go_simp
          refine hK.out _ _ (True.intro) (fun hHeld => ?_)
          clear hK K
          clear hHeld
          try simp only [Act.put, PTs]
          refine wpAnyH_ready (rs := [6, 12]) (by kernel_rfl) (by simp) ?_
          refine AllReadyH.cons rfl (fun K hK => ?_) ?_
          go_simp
          refine hK.out _ _ (True.intro) (fun hHeld => ?_)
          clear hK K
          clear hHeld
          try simp only [Act.put, PTs]
          refine rdH 12 rfl (by kernel_rfl) (fun K hK => ?_)
          go_simp
          refine hK.out _ _ (True.intro) (fun hHeld => ?_)
          clear hK K
          clear hHeld
          try simp only [Act.put, PTs]
          exact ?shared
          refine AllReadyH.cons rfl (fun K hK => ?_) AllReadyH.nil
          go_simp
          refine hK.out _ _ (True.intro) (fun hHeld => ?_)
          clear hK K
          clear hHeld
          try simp only [Act.put, PTs]
          refine rdH 6 rfl (by kernel_rfl) (fun K hK => ?_)
          go_simp
          refine hK.out _ _ (True.intro) (fun hHeld => ?_)
          clear hK K
          clear hHeld
          try simp only [Act.put, PTs]
          exact ?shared
          refine AllReadyH.cons rfl (fun K hK => ?_) AllReadyH.nil
          go_simp
          refine hK.out _ _ (True.intro) (fun hHeld => ?_)
          clear hK K
          clear hHeld
          try simp only [Act.put, PTs]
          refine wpAnyH_ready (rs := [6, 9]) (by kernel_rfl) (by simp) ?_
          refine AllReadyH.cons rfl (fun K hK => ?_) ?_
          go_simp
          refine hK.out _ _ (True.intro) (fun hHeld => ?_)
          clear hK K
          clear hHeld
          try simp only [Act.put, PTs]
          refine rdH 9 rfl (by kernel_rfl) (fun K hK => ?_)
          go_simp
          refine hK.out _ _ (True.intro) (fun hHeld => ?_)
          clear hK K
          clear hHeld
          try simp only [Act.put, PTs]
          exact ?shared
          refine AllReadyH.cons rfl (fun K hK => ?_) AllReadyH.nil
          go_simp
          refine hK.out _ _ (True.intro) (fun hHeld => ?_)
          clear hK K
          clear hHeld
          try simp only [Act.put, PTs]
          refine rdH 6 rfl (by kernel_rfl) (fun K hK => ?_)
          go_simp
          refine hK.out _ _ (True.intro) (fun hHeld => ?_)
          clear hK K
          clear hHeld
          try simp only [Act.put, PTs]
          exact ?shared
          refine rdH 16 rfl (by kernel_rfl) (fun K hK => ?_)
          go_simp
          refine (quarter_any ⟨xa, xb, xc, xd⟩ W0 HOK.out).mono ?_
          rintro e w' ⟨rfl, rfl⟩
          refine hK.out _ _ (True.intro) (fun hHeld => ?_)
          clear hK K
          try simp only [Act.put, PTs]
          generalize (Q4.mk xa xb xc xd).two = q at *
          refine tkH 17 (v := ?v13) rfl ?hy13 ?rest13
          case hy13 => (intro w hSw; (try dsimp only at hSw); go_simp; try with_reducible rfl)
          try simp only [Act.put, PTs]
          refine tkH 18 (v := ?v14) rfl ?hy14 ?rest14
          case hy14 => (intro w hSw; (try dsimp only at hSw); go_simp; try with_reducible rfl)
          try simp only [Act.put, PTs]
          refine tkH 19 (v := ?v15) rfl ?hy15 ?rest15
          case hy15 => (intro w hSw; (try dsimp only at hSw); go_simp; try with_reducible rfl)
          try simp only [Act.put, PTs]
          refine tkH 20 (v := ?v16) rfl ?hy16 ?rest16
          case hy16 => (intro w hSw; (try dsimp only at hSw); go_simp; try with_reducible rfl)
          try simp only [Act.put, PTs]
          refine tkH 21 (v := ?v17) rfl ?hy17 ?rest17
          case hy17 => (intro w hSw; (try dsimp only at hSw); go_simp; try with_reducible rfl)
          try simp only [Act.put, PTs]
          refine tkH 22 (v := ?v18) rfl ?hy18 ?rest18
          case hy18 => (intro w hSw; (try dsimp only at hSw); go_simp; try with_reducible rfl)
          try simp only [Act.put, PTs]
          obtain ⟨o0, co0⟩ := blk_some X1 qa (by first | exact hl16 | simpa using hl16) ha
          have fo0 := Blk.frozen X1 qa
          refine rdH 23 rfl (by kernel_rfl) (fun K hK => ?_)
          go_simp
          refine hK.out _ _ (True.intro) (fun hHeld => ?_)
          clear hK K
          try simp only [Act.put, PTs]
          have Y0 := X1.set qa (.int .u32 (q.a : Int))
          rw [List.setIfInBounds_toArray, cellsW_set] at Y0
          clear co0 fo0
          refine tkH 24 (v := ?v19) rfl ?hy19 ?rest19
          case hy19 => (intro w hSw; (try dsimp only at hSw); go_simp; try with_reducible rfl)
          try simp only [Act.put, PTs]
          obtain ⟨o1, co1⟩ := blk_some Y0 qb (by first | exact hl16 | simpa using hl16) hb
          have fo1 := Blk.frozen Y0 qb
          refine rdH 25 rfl (by kernel_rfl) (fun K hK => ?_)
          go_simp
          refine hK.out _ _ (True.intro) (fun hHeld => ?_)
          clear hK K
          try simp only [Act.put, PTs]
          have Y1 := Y0.set qb (.int .u32 (q.b : Int))
          rw [List.setIfInBounds_toArray, cellsW_set] at Y1
          clear co1 fo1
          refine tkH 26 (v := ?v20) rfl ?hy20 ?rest20
          case hy20 => (intro w hSw; (try dsimp only at hSw); go_simp; try with_reducible rfl)
          try simp only [Act.put, PTs]
          obtain ⟨o2, co2⟩ := blk_some Y1 qc (by first | exact hl16 | simpa using hl16) hc
          have fo2 := Blk.frozen Y1 qc
          refine rdH 27 rfl (by kernel_rfl) (fun K hK => ?_)
          go_simp
          refine hK.out _ _ (True.intro) (fun hHeld => ?_)
          clear hK K
          try simp only [Act.put, PTs]
          have Y2 := Y1.set qc (.int .u32 (q.c : Int))
          rw [List.setIfInBounds_toArray, cellsW_set] at Y2
          clear co2 fo2
          refine tkH 28 (v := ?v21) rfl ?hy21 ?rest21
          case hy21 => (intro w hSw; (try dsimp only at hSw); go_simp; try with_reducible rfl)
          try simp only [Act.put, PTs]
          obtain ⟨o3, co3⟩ := blk_some Y2 qd (by first | exact hl16 | simpa using hl16) hd
          have fo3 := Blk.frozen Y2 qd
          refine rdH 29 rfl (by kernel_rfl) (fun K hK => ?_)
          go_simp
          refine hK.out _ _ (True.intro) (fun hHeld => ?_)
          clear hK K
          try simp only [Act.put, PTs]
          have Y3 := Y2.set qd (.int .u32 (q.d : Int))
          rw [List.setIfInBounds_toArray, cellsW_set] at Y3
          clear co3 fo3
          have FIN : Hid (MixInv w g1 g2 (E8 (j + 1)) ((((W0.setCell ⟨g1, qa, none⟩ (.int .u32 (q.a : Int))).setCell ⟨g1, qb, none⟩ (.int .u32 (q.b : Int))).setCell ⟨g1, qc, none⟩ (.int .u32 (q.c : Int))).setCell ⟨g1, qd, none⟩ (.int .u32 (q.d : Int)))) := by
            have fr : Frm (fun i => i = g1) W0 ((((W0.setCell ⟨g1, qa, none⟩ (.int .u32 (q.a : Int))).setCell ⟨g1, qb, none⟩ (.int .u32 (q.b : Int))).setCell ⟨g1, qc, none⟩ (.int .u32 (q.c : Int))).setCell ⟨g1, qd, none⟩ (.int .u32 (q.d : Int))) := ((((Frm.setCell _ _ _ (fun k => k = g1) rfl).trans (Frm.setCell _ _ _ (fun k => k = g1) rfl) (fun _ _ h => h)).trans (Frm.setCell _ _ _ (fun k => k = g1) rfl) (fun _ _ h => h)).trans (Frm.setCell _ _ _ (fun k => k = g1) rfl) (fun _ _ h => h))
            exact ⟨by rw [HEJ.out]; exact Y3, HI3.out.res.frm fr (fun h => hne h.symm), HI3.out.gc.frm fr (by omega) (by omega), below_frm HI3.out.below fr HI3.out.below.size (fun i hi => by rw [hi, HG1.out]; exact Nat.le_refl _)⟩
          clear Y0 Y1 Y2 Y3 X1 HI3 HEJ la lb lc ld
          refine wpAnyH_done (by kernel_rfl) ?_ _
          go_wp2_with fail
          go_roundw
          case rel => first | exact ⟨j + 1, by omega, by go_num, FIN.out⟩ | ((repeat apply Exists.intro); exact ⟨⟨j + 1, by omega, by go_num, FIN.out⟩, rfl⟩)
          case measure => simp [intOf]; omega
        · obtain rfl : j = 8 := by omega
          have FIN : Hid (MixInv w g1 g2 (M (k + 1)) wr) := by rw [HE8.out]; exact hi
          clear hi
          go_wp2_with fail
          go_roundw
          case rel => first | exact ⟨k + 1, by omega, by go_num, FIN.out⟩ | ((repeat apply Exists.intro); exact ⟨⟨k + 1, by omega, by go_num, FIN.out⟩, rfl⟩)
          case measure => simp [intOf]; omega
    · obtain rfl : k = 10 := by omega
      have hb := hi.blk
      have hres := hi.res
      have hbel := hi.below
      have HL : Hid ((cellsW (M 10)).length = 16) := by show _ = _; rw [cellsW_length, HML.out]
      have HX : Hid (((cellsW (M 10)).drop 0).take 16 = cellsW (M 10)) := by show _ = _; rw [List.drop_zero, List.take_of_length_le (by rw [HL.out]; exact Nat.le_refl _)]
      clear hi
      go_wp2_with (first
        | (with_reducible refine wpl_loada (op := ⟨some 51, _, _, _, _, _⟩) agg16w rfl _ rfl g1 0 rfl _ _ _ hb HX.out (by rw [HL.out]; exact Nat.le_refl _) ?_)
        | ((with_reducible refine wpl_storea agg16w rfl (.tmp 2) (.tmp 51) rfl g2 (cellsW (M 10)) rfl rfl _ _ hres HL.out (by simp [cellsW]) (cellsW_one _) ?_); intro w4 hB4 hF4))
      refine ret_agg agg16w rfl rfl g2 _ _ rfl hB4 HL.out ⟨rfl, below_frm hbel hF4 hbel.size (by intro i hi; omega)⟩
end Go.Proofs.YtoiiiflnnhkjbaaGreatDoor
