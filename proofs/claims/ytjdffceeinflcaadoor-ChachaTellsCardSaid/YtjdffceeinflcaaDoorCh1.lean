/-
  chacha: turns, quarters, numbers of four bytes.
-/
import Derived.Test.YtjdffceeinflcaaDoorChM
namespace Go.Proofs.YtjdffceeinflcaaDoor
set_option linter.unusedVariables false
open Go.RowKit

theorem leftN_lt {x k : Nat} (hx : x < 4294967296) : leftN x k < 4294967296 := rotN_lt hx
theorem andk (k : Nat) (h2 : k ≤ 31) : bits .and .u64 (k : Int) 31 = k := by
  have all : ∀ j : Fin 32, bits .and .u64 (j.val : Int) 31 = (j.val : Int) := by decide +kernel
  exact all ⟨k, by omega⟩

theorem rotl_any (x k : Nat) (w : World) (hx : x < 4294967296) (h1 : 1 ≤ k) (h2 : k ≤ 31) :
    Calls Tryd.prog 27 #[.int .u32 x, .int .i64 k] w fun e w' => e = .returned (.int .u32 (leftN x k : Nat)) ∧ w = w' := by
  have h3 := andk k h2
  have h0 : IntKind.u64.wrap (k : Int) = k := by rw [IntKind.wrap_u64]; omega
  have h4 : min (k : Int).toNat IntKind.u32.bits = k := by have : IntKind.u32.bits = 32 := rfl; omega
  have h5 : IntKind.u64.wrap (32 - (k : Int)) = ((32 - k : Nat) : Int) := by rw [IntKind.wrap_u64]; omega
  have h6 : min ((32 - k : Nat) : Int).toNat IntKind.u32.bits = 32 - k := by have : IntKind.u32.bits = 32 := rfl; omega
  have h9 : bits .or .u32 ((x : Int) * 2 ^ k % 4294967296) ((x : Int) / 2 ^ (32 - k)) = (leftN x k : Nat) := by
    have := rot_eq x (32 - k) hx
    rw [show 32 - (32 - k) = k by omega] at this
    exact this
  have h7 : ∀ w, Sem.run Tryd.prog (Op.shift .shl .u32 x .u64 (k : Int)) w = .ok (.int .u32 ((x : Int) * 2 ^ k % 4294967296)) w := by
    intro w; rw [shift_shl_any _ _ _ _ (by omega), h4, IntKind.wrap_u32']; rfl
  have h8 : ∀ w, Sem.run Tryd.prog (Op.shift .shr .u32 x .u64 ((32 - k : Nat) : Int)) w = .ok (.int .u32 ((x : Int) / 2 ^ (32 - k))) w := by
    intro w; rw [shift_shr_any _ _ _ _ (by omega), h6]; rfl
  clear h4 h6 hx
  go_enter Tryd.func27, Tryd.ntmps27
  go_wp2_with fail
  go_ret
  exact ⟨rfl, rfl⟩

/-- A quarter of four numbers. -/
structure Q4 where
  a : Nat
  b : Nat
  c : Nat
  d : Nat
def Q4.one (q : Q4) (i j : Nat) : Q4 :=
  let a1 := ad q.a q.b
  let d1 := leftN (q.d ^^^ a1) i
  let c1 := ad q.c d1
  ⟨a1, leftN (q.b ^^^ c1) j, c1, d1⟩
def Q4.two (q : Q4) : Q4 := (q.one 16 12).one 8 7
structure Q4.ok (q : Q4) : Prop where
  a : q.a < 4294967296
  b : q.b < 4294967296
  c : q.c < 4294967296
  d : q.d < 4294967296
theorem Q4.ok.one {q : Q4} (h : q.ok) (i j : Nat) : (q.one i j).ok := ⟨ad_lt _ _, leftN_lt (xor_lt32 h.b (ad_lt _ _)), ad_lt _ _, leftN_lt (xor_lt32 h.d (ad_lt _ _))⟩
theorem Q4.ok.two {q : Q4} (h : q.ok) : q.two.ok := (h.one 16 12).one 8 7

theorem results_four {fn : Func} {t u v z : Tmp} (h : fn.results = #[.tmp t, .tmp u, .tmp v, .tmp z]) (tmps : Array Value) (P : Program) (w : World) :
    (results fn tmps).run P w = .ok (.tuple #[tmps.getD t undef, tmps.getD u undef, tmps.getD v undef, tmps.getD z undef]) w := by
  simp [results, h]
set_option maxHeartbeats 1000000 in
theorem quarter_any (q : Q4) (w : World) (h : q.ok) :
    Calls Tryd.prog 25 #[.int .u32 q.a, .int .u32 q.b, .int .u32 q.c, .int .u32 q.d] w fun e w' => e = .returned (.tuple #[.int .u32 q.two.a, .int .u32 q.two.b, .int .u32 q.two.c, .int .u32 q.two.d]) ∧ w = w' := by
  obtain ⟨a, b, c, d⟩ := q
  obtain ⟨ha, hb, hc, hd⟩ := h
  dsimp only at ha hb hc hd ⊢
  have wadd : ∀ x y : Nat, IntKind.u32.wrap ((x : Int) + (y : Int)) = (ad x y : Nat) := fun x y => by rw [IntKind.wrap_u32']; exact ad_int _ _
  obtain ⟨a1, ea1⟩ : ∃ a1, a1 = ad a b := ⟨_, rfl⟩
  have la1 : a1 < 4294967296 := by rw [ea1]; exact ad_lt _ _
  have wa1 := wadd a b
  rw [← ea1] at wa1
  have x1 := u32_xor_nat d a1 hd la1
  have lx1 := xor_lt32 hd la1
  obtain ⟨y1, ey1⟩ : ∃ y1, y1 = d ^^^ a1 := ⟨_, rfl⟩
  rw [← ey1] at x1 lx1
  obtain ⟨d1, ed1⟩ : ∃ d1, d1 = leftN y1 16 := ⟨_, rfl⟩
  have ld1 : d1 < 4294967296 := by rw [ed1]; exact leftN_lt lx1
  obtain ⟨c1, ec1⟩ : ∃ c1, c1 = ad c d1 := ⟨_, rfl⟩
  have lc1 : c1 < 4294967296 := by rw [ec1]; exact ad_lt _ _
  have wc1 := wadd c d1
  rw [← ec1] at wc1
  have x2 := u32_xor_nat b c1 hb lc1
  have lx2 := xor_lt32 hb lc1
  obtain ⟨y2, ey2⟩ : ∃ y2, y2 = b ^^^ c1 := ⟨_, rfl⟩
  rw [← ey2] at x2 lx2
  obtain ⟨b1, eb1⟩ : ∃ b1, b1 = leftN y2 12 := ⟨_, rfl⟩
  have lb1 : b1 < 4294967296 := by rw [eb1]; exact leftN_lt lx2
  obtain ⟨a2, ea2⟩ : ∃ a2, a2 = ad a1 b1 := ⟨_, rfl⟩
  have la2 : a2 < 4294967296 := by rw [ea2]; exact ad_lt _ _
  have wa2 := wadd a1 b1
  rw [← ea2] at wa2
  have x3 := u32_xor_nat d1 a2 ld1 la2
  have lx3 := xor_lt32 ld1 la2
  obtain ⟨y3, ey3⟩ : ∃ y3, y3 = d1 ^^^ a2 := ⟨_, rfl⟩
  rw [← ey3] at x3 lx3
  obtain ⟨d2, ed2⟩ : ∃ d2, d2 = leftN y3 8 := ⟨_, rfl⟩
  have ld2 : d2 < 4294967296 := by rw [ed2]; exact leftN_lt lx3
  obtain ⟨c2, ec2⟩ : ∃ c2, c2 = ad c1 d2 := ⟨_, rfl⟩
  have lc2 : c2 < 4294967296 := by rw [ec2]; exact ad_lt _ _
  have wc2 := wadd c1 d2
  rw [← ec2] at wc2
  have x4 := u32_xor_nat b1 c2 lb1 lc2
  have lx4 := xor_lt32 lb1 lc2
  obtain ⟨y4, ey4⟩ : ∃ y4, y4 = b1 ^^^ c2 := ⟨_, rfl⟩
  rw [← ey4] at x4 lx4
  obtain ⟨b2, eb2⟩ : ∃ b2, b2 = leftN y4 7 := ⟨_, rfl⟩
  have hq : (Q4.mk a b c d).two = ⟨a2, b2, c2, d2⟩ := by
    subst eb2 ey4 ec2 ed2 ey3 ea2 eb1 ey2 ec1 ed1 ey1 ea1
    rfl
  rw [hq]
  have c1' : ∀ w, Calls Tryd.prog 27 #[.int .u32 (y1 : Int), .int .i64 16] w fun e w' => e = .returned (.int .u32 (leftN y1 16 : Nat)) ∧ w = w' := fun w => rotl_any y1 16 w lx1 (by omega) (by omega)
  have c2' : ∀ w, Calls Tryd.prog 27 #[.int .u32 (y2 : Int), .int .i64 12] w fun e w' => e = .returned (.int .u32 (leftN y2 12 : Nat)) ∧ w = w' := fun w => rotl_any y2 12 w lx2 (by omega) (by omega)
  have c3' : ∀ w, Calls Tryd.prog 27 #[.int .u32 (y3 : Int), .int .i64 8] w fun e w' => e = .returned (.int .u32 (leftN y3 8 : Nat)) ∧ w = w' := fun w => rotl_any y3 8 w lx3 (by omega) (by omega)
  have c4' : ∀ w, Calls Tryd.prog 27 #[.int .u32 (y4 : Int), .int .i64 7] w fun e w' => e = .returned (.int .u32 (leftN y4 7 : Nat)) ∧ w = w' := fun w => rotl_any y4 7 w lx4 (by omega) (by omega)
  rw [← ed1] at c1'
  rw [← eb1] at c2'
  rw [← ed2] at c3'
  rw [← eb2] at c4'
  have C1 := hide c1'
  have C2 := hide c2'
  have C3 := hide c3'
  have C4 := hide c4'
  clear c1' c2' c3' c4' wadd ea1 ey1 ed1 ec1 ey2 eb1 ea2 ey3 ed2 ec2 ey4 eb2 hq ha hb hc hd la1 lx1 ld1 lc1 lx2 lb1 la2 lx3 ld2 lc2 lx4
  go_enter Tryd.func25, Tryd.ntmps25
  go_wp2_with fail
  refine (C1.out _).mono ?_
  rintro e w' ⟨rfl, rfl⟩
  go_wp2_with fail
  refine (C2.out _).mono ?_
  rintro e w' ⟨rfl, rfl⟩
  go_wp2_with fail
  refine (C3.out _).mono ?_
  rintro e w' ⟨rfl, rfl⟩
  go_wp2_with fail
  refine (C4.out _).mono ?_
  rintro e w' ⟨rfl, rfl⟩
  go_wp2_with fail
  (try simp only [Exit.inBlock, Exit.then])
  refine bodyPost_ret (results_four rfl _ _ _) rfl ?_
  exact ⟨rfl, rfl⟩

theorem low_eq (b0 b1 b2 b3 : UInt8) : lowN [b0, b1, b2, b3] = b0.toNat + b1.toNat * 256 + b2.toNat * 65536 + b3.toNat * 16777216 := by simp [lowN, num]; omega
theorem lowN4_lt (b0 b1 b2 b3 : UInt8) : lowN [b0, b1, b2, b3] < 4294967296 := by
  have l0 := b0.toNat_lt
  have l1 := b1.toNat_lt
  have l2 := b2.toNat_lt
  have l3 := b3.toNat_lt
  rw [low_eq]
  omega
theorem number_low (b0 b1 b2 b3 : UInt8) : bits .or .u32 (bits .or .u32 (bits .or .u32 (b0.toNat : Int) ((b1.toNat : Int) * 256)) ((b2.toNat : Int) * 65536)) ((b3.toNat : Int) * 16777216) = (lowN [b0, b1, b2, b3] : Nat) := by
  have l0 := b0.toNat_lt
  have l1 := b1.toNat_lt
  have l2 := b2.toNat_lt
  have l3 := b3.toNat_lt
  have e1 := u32_or_nat b0.toNat (b1.toNat * 256) (by omega) (by omega)
  rw [Nat.or_comm, nat_join 8 _ _ (by omega) (by omega)] at e1
  have e2 := u32_or_nat (b1.toNat * 256 + b0.toNat) (b2.toNat * 65536) (by omega) (by omega)
  rw [Nat.or_comm, nat_join 16 _ _ (by omega) (by omega)] at e2
  have e3 := u32_or_nat (b2.toNat * 65536 + (b1.toNat * 256 + b0.toNat)) (b3.toNat * 16777216) (by omega) (by omega)
  rw [Nat.or_comm, nat_join 24 _ _ (by omega) (by omega)] at e3
  rw [show lowN [b0, b1, b2, b3] = b3.toNat * 16777216 + (b2.toNat * 65536 + (b1.toNat * 256 + b0.toNat)) by rw [low_eq]; omega]
  rw [← e3]
  simp only [Int.natCast_mul] at e1 e2 ⊢
  refine congrArg (fun z => bits .or .u32 z ((b3.toNat : Int) * 16777216)) ?_
  rw [← e2]
  refine congrArg (fun z => bits .or .u32 z ((b2.toNat : Int) * 65536)) ?_
  exact e1

theorem number_any (g off n c : Nat) (b0 b1 b2 b3 : UInt8) (w : World) (h4 : 4 ≤ n) (hn : n ≤ 1000)
    (h0 : w.cell? ⟨g, off, none⟩ = some (.int .u8 (b0.toNat : Int))) (h1 : w.cell? ⟨g, off + 1, none⟩ = some (.int .u8 (b1.toNat : Int)))
    (h2 : w.cell? ⟨g, off + 2, none⟩ = some (.int .u8 (b2.toNat : Int))) (h3 : w.cell? ⟨g, off + 3, none⟩ = some (.int .u8 (b3.toNat : Int))) :
    Calls Tryd.prog 24 #[.slice (some ⟨g, off, none⟩) n c] w fun e w' => e = .returned (.int .u32 (lowN [b0, b1, b2, b3] : Nat)) ∧ ∃ m, w' = w.drewN m := by
  have l0 := b0.toNat_lt
  have l1 := b1.toNat_lt
  have l2 := b2.toNat_lt
  have l3 := b3.toNat_lt
  go_enter Tryd.func24, Tryd.ntmps24
  go_wp2_with fail
  go_quiet (fail)
  go_wp2
  go_ret
  exact ⟨congrArg (fun z => Ending.returned (.int .u32 z)) (number_low b0 b1 b2 b3), _, rfl⟩

theorem le4_cells (v : Nat) (h : v < 4294967296) : cellsB (le4 v) = [.int .u8 ((v : Int) % 256), .int .u8 ((v : Int) / 256 % 256), .int .u8 ((v : Int) / 65536 % 256), .int .u8 ((v : Int) / 16777216)] := by
  simp [cellsB, le4, be, List.range_succ]
  omega
theorem put_any (g off n c : Nat) (v : Nat) (cs : List Value) (t : TypeId) (w : World) (h4 : 4 ≤ n) (hn : n ≤ 1000) (hv : v < 4294967296)
    (hb : Blk w g t cs.toArray) (ho : off + 4 ≤ cs.length) :
    Calls Tryd.prog 19 #[.slice (some ⟨g, off, none⟩) n c, .int .u32 (v : Int)] w fun e w' => e = .returned (.tuple #[]) ∧ Blk w' g t (splice cs off (cellsB (le4 v))).toArray ∧ Frm (fun k => k = g) w w' := by
  have f0 := hb.frozen off
  have f1 := hb.frozen (off + 1)
  have f2 := hb.frozen (off + 2)
  have f3 := hb.frozen (off + 3)
  have h0 : w.cell? ⟨g, off, none⟩ = some cs[off] := by rw [hb.cell]; simp
  have h1 : w.cell? ⟨g, off + 1, none⟩ = some cs[off + 1] := by rw [hb.cell]; simp
  have h2 : w.cell? ⟨g, off + 2, none⟩ = some cs[off + 2] := by rw [hb.cell]; simp
  have h3 : w.cell? ⟨g, off + 3, none⟩ = some cs[off + 3] := by rw [hb.cell]; simp
  generalize cs[off] = x0 at *
  generalize cs[off + 1] = x1 at *
  generalize cs[off + 2] = x2 at *
  generalize cs[off + 3] = x3 at *
  have HO := hide ho
  clear ho
  go_enter Tryd.func19, Tryd.ntmps19
  go_wp2_with fail
  refine end0 rfl rfl ⟨rfl, ?_, ?_⟩
  · have := ((((hb.set off (.int .u8 ((v : Int) % 256))).set (off + 1) (.int .u8 ((v : Int) / 256 % 256))).set (off + 2) (.int .u8 ((v : Int) / 65536 % 256))).set (off + 3) (.int .u8 ((v : Int) / 16777216)))
    rw [le4_cells v hv, ← set4 _ _ _ _ _ _ HO.out]
    simpa using this
  · exact ((((Frm.setCell _ _ _ (fun k => k = g) rfl).trans (Frm.setCell _ _ _ (fun k => k = g) rfl) (fun _ _ h => h)).trans (Frm.setCell _ _ _ (fun k => k = g) rfl) (fun _ _ h => h)).trans (Frm.setCell _ _ _ (fun k => k = g) rfl) (fun _ _ h => h))
end Go.Proofs.YtjdffceeinflcaaDoor
