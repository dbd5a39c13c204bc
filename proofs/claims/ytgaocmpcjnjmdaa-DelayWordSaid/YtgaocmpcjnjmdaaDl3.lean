/-
  delay: Log2 by a contract: what the document's numbers say; what lay when the call began lies as it lay. No condition but the number's own bounds.
-/
import Derived.Test.YtgaocmpcjnjmdaaDl2
namespace Go.Proofs.Ytgaocmpcjnjmdaa
set_option linter.unusedVariables false
open Go.RowKit Go.Shelf

attribute [local go_sem] Oper.semAt_some

/-- The logarithm, over integers. -/
def logV (x : Int) : Int := (logN x.toNat : Int)

theorem cell_box {W : World} {B : Nat} {v : Value} {t : TypeId} (h : W.heap[B]? = some (.cells #[v] t (0, 0))) : W.cell? ⟨B, 0, none⟩ = some v ∧ W.frozen? ⟨B, 0, none⟩ = false := by
  constructor <;> simp [World.cell?, World.frozen?, h]
theorem cell_fresh (W : World) (v : Value) (t : TypeId) : (W.alloc (.cells #[v] t)).cell? ⟨W.heap.size, 0, none⟩ = some v ∧ (W.alloc (.cells #[v] t)).frozen? ⟨W.heap.size, 0, none⟩ = false :=
  cell_box (World.alloc_heap_new W _)
theorem cell_still {W : World} {a : Addr} {v : Value} (o : Obj) (h : W.cell? a = some v) : (W.alloc o).cell? a = some v := cell_kept h (World.grownBy_alloc W o none) (fun r e => by cases e)
theorem frozen_still {W : World} {a : Addr} {v : Value} (o : Obj) (h : W.cell? a = some v) (hf : W.frozen? a = false) : (W.alloc o).frozen? a = false := (frozen_kept h (World.grownBy_alloc W o none) (fun r e => by cases e)).trans hf

/-- What the loop makes of the bits, from s on. -/
def accI (s : Int) : List Int → Int := List.foldl (fun s v => bits BinOp.or IntKind.u32 (s * 2 % 4294967296) v) s
theorem accI_snoc (s : Int) (pre : List Int) (x : Int) : accI s (pre ++ [x]) = bits BinOp.or IntKind.u32 (accI s pre * 2 % 4294967296) x := by simp [accI]

theorem lenV_one {x : Int} (hx : 1 ≤ x) : lenV x = (Nat.log2 x.toNat : Int) + 1 := by
  unfold lenV
  rw [lenN_pos (by omega)]
  omega
theorem norm_of {x : Int} (hx : 1 ≤ x) (h : x < 4294967296) : x * 2 ^ (32 - lenV x).toNat % 4294967296 = (normN x.toNat : Int) := by
  have h3 := log2_le31 (n := x.toNat) (by omega) (by omega)
  have h2 := (normN_ok (n := x.toNat) (by omega) (by omega)).hi
  rw [lenV_one hx, show (32 - ((Nat.log2 x.toNat : Int) + 1)).toNat = 31 - Nat.log2 x.toNat by omega]
  have e : x * 2 ^ (31 - Nat.log2 x.toNat) = (normN x.toNat : Int) := by
    unfold normN
    rw [Int.natCast_mul, Int.natCast_pow, Int.toNat_of_nonneg (by omega)]
    rfl
  rw [e]
  have h2' : normN x.toNat < 4294967296 := h2
  omega
theorem or_one (a : Nat) : 2 * a ||| 1 = 2 * a + 1 := by
  have := Nat.two_pow_add_eq_or_of_lt (i := 1) (b := 1) (by omega) a
  simpa using this.symm
/-- The bits, put behind the whole part. -/
theorem accI_upto {x0 : Nat} (h : BitOk 0 (x0, 0)) (s : Nat) (hs : s < 32) : ∀ k, k ≤ 16 → accI s (uptoB x0 k) = ((s * 2 ^ k + (bitsN k (x0, 0)).2 : Nat) : Int)
  | 0, _ => by
    show (s : Int) = _
    simp [bitsN]
  | k + 1, hk => by
    have hb := (bitsN_ok k h).bits
    have hk2 : 2 ^ k ≤ 2 ^ 15 := Nat.pow_le_pow_right (by omega) (by omega)
    have hm : s * 2 ^ k ≤ 31 * 2 ^ 15 := Nat.mul_le_mul (by omega) hk2
    rw [uptoB_succ, accI_snoc, accI_upto h s hs k (by omega)]
    obtain ⟨A, hA⟩ : ∃ A, s * 2 ^ k + (bitsN k (x0, 0)).2 = A := ⟨_, rfl⟩
    have hA1 : A < 2097152 := by omega
    have e1 : ((A : Int) * 2 % 4294967296) = ((2 * A : Nat) : Int) := by omega
    have e2 : s * 2 ^ (k + 1) = 2 * (s * 2 ^ k) := by rw [Nat.pow_succ, ← Nat.mul_assoc, Nat.mul_comm]
    rw [hA, e1, e2]
    rcases bitAt_step h k with ⟨t1, _, t3⟩ | ⟨t1, _, t3⟩
    · rw [t1, t3, u32_or_nat _ _ (by omega) (by omega), Nat.or_zero]
      omega
    · rw [t1, t3, u32_or_nat _ _ (by omega) (by omega), or_one]
      omega
theorem logV_of {x : Int} (hx : 1 ≤ x) (h : x < 4294967296) : accI (lenV x - 1) (uptoB (normN x.toNat) 16) = logV x := by
  have h3 := log2_le31 (n := x.toNat) (by omega) (by omega)
  rw [lenV_one hx, show ((Nat.log2 x.toNat : Int) + 1 - 1) = ((Nat.log2 x.toNat : Nat) : Int) by omega, accI_upto (normN_ok (by omega) (by omega)) _ (by omega) 16 (by omega)]
  obtain ⟨b, hb⟩ : ∃ b, (bitsN 16 (normN x.toNat, 0)).2 = b := ⟨_, rfl⟩
  have e : logV x = ((Nat.log2 x.toNat * 65536 + b : Nat) : Int) := by
    unfold logV logN
    rw [if_neg (by omega), hb]
  rw [e, hb]

set_option maxRecDepth 100000 in
set_option maxHeartbeats 4000000 in
theorem log2_in (n : Nat) (hn : 3 ≤ n) (x : Int) (w : World) (h0 : 0 ≤ x) (h : x < 4294967296) (hx : 1 ≤ x) :
    CallsIn Fence.wide n Try.prog 11 #[.int .u32 x] w fun e w' => e = .returned (.int .u32 (logV x)) ∧ Below w.heap.size w w' := by
  have h1 : 1 ≤ n := by omega
  have hx' : (x == 0) = false := by simp; omega
  have hx2 : ¬ x = 0 := by omega
  have hok := normN_ok (n := x.toNat) (by omega) (by omega)
  have hlast := logV_of hx h
  have hno := norm_of hx h
  obtain ⟨hl0, hl1⟩ := lenV_bounds x h
  have hL1 : 1 ≤ lenV x := by rw [lenV_one hx]; omega
  have hLe := len32_any x
  have hZe := zeros32_any x
  obtain ⟨L, hL⟩ : ∃ L, lenV x = L := ⟨_, rfl⟩
  obtain ⟨c, hc⟩ : ∃ c, normN x.toNat = c := ⟨_, rfl⟩
  obtain ⟨V, hV⟩ : ∃ V, logV x = V := ⟨_, rfl⟩
  rw [hL] at hl0 hl1 hLe hZe hL1 hno hlast
  rw [hc] at hok hlast hno
  rw [hV] at hlast ⊢
  have hseq := fun (Bn : Nat) => frac_stops (n - 1) (by omega) Bn w.heap.size c hok
  obtain ⟨U, hU⟩ : ∃ U, uptoB c 16 = U := ⟨_, rfl⟩
  rw [hU] at hlast hseq
  have hlast' : Veil (accI (L - 1) U = V) := hlast
  clear hL hc hV hlast hU
  refine callsIn_of_wp_marks Try.func11 rfl trivial ?_ rfl
  simp only [Try.ntmps11, List.size_toArray, List.length_cons, List.length_nil, Nat.reduceAdd, Nat.reduceSub, Array.replicate_succ, Array.replicate_zero, List.push_toArray, List.append_toArray, List.nil_append, List.cons_append]
  gi_wp2_with (first
    | (refine ⟨trivial, ?_⟩; gi_at_call 17; refine (callsIn_wide.2 (hLe _ h0 h)).mono ?_; rintro e w' ⟨rfl, rfl⟩)
    | (refine ⟨trivial, ?_⟩; gi_at_call 19; refine (callsIn_wide.2 (hZe _ h0 h)).mono ?_; rintro e w' ⟨rfl, rfl⟩)
    | (refine ⟨trivial, ?_⟩; gi_at_call 18; refine (callsIn_wide.2 (frac_any _ _)).mono ?_; rintro e w' ⟨rfl, rfl⟩))
  have hs := cell_fresh w (.int .u32 (L - 1)) 22
  have hb := cell_fresh (w.alloc (.cells #[.int .u32 (L - 1)] 22)) (.int .u32 (c : Int)) 22
  rw [World.size_alloc] at hb
  have hB0 : Below w.heap.size w ((w.alloc (.cells #[.int .u32 (L - 1)] 22)).alloc (.cells #[.int .u32 (c : Int)] 22)) := ((Below.refl _ w).alloc (Nat.le_refl _) _).alloc (by simp) _
  refine wpIn_rangeFunc_ownF rfl h1 (gf := 21) (lb := #[.pointer (some ⟨w.heap.size + 1, 0, none⟩)]) rfl trivial (enters_of Try.func21 (by kernel_rfl) rfl)
    (hseq (w.heap.size + 1) _ (by simp) hb.1) belowK_t (belowK_b (by simp; omega)) (Below.refl _ _) (fun _ => rfl)
    (fun pre W => (W.cell? ⟨w.heap.size, 0, none⟩ = some (.int .u32 (accI (L - 1) pre)) ∧ W.frozen? ⟨w.heap.size, 0, none⟩ = false) ∧ Below w.heap.size w W)
    (fun _ _ _ => False)
    (OwnFrom.and (Own.from (fun s A B row hs hg hr => ⟨cell_kept hs.1 hg hr, (frozen_kept hs.1 hg hr).trans hs.2⟩) _) (ownFrom_below (Nat.le_refl _) (by simp; omega)))
    (fun _ _ _ _ _ hs _ _ => hs)
    ⟨⟨cell_still _ hs.1, frozen_still _ hs.1 hs.2⟩, hB0⟩
    (fun b => { tmps := #[.int .u32 x, undef, .int .u32 0, .pointer (some ⟨w.heap.size, 0, none⟩), .int .u32 b, .int .u32 x, .bool false, .int .u32 x, .int .i64 L, .int .i64 (L - 1), .int .u32 (L - 1), .int .u32 x, .int .u32 x, .int .i64 (32 - L), .int .u32 (c : Int),
      .func (.func 21) #[] #[.pointer (some ⟨w.heap.size + 1, 0, none⟩)], .int .u32 b, undef, undef, undef, undef, undef], defers := [] }) ?assign ?body ?done ?stop
  case assign =>
    intro l b W K hK
    gi_wp2
    exact hK
  case body =>
    rintro l pre b W ⟨⟨hc, hf⟩, hB⟩ _
    obtain ⟨A, hA⟩ : ∃ A, accI (L - 1) pre = A := ⟨_, rfl⟩
    have hA2 := accI_snoc (L - 1) pre b
    rw [hA] at hc hA2
    clear hA
    have hA3 : Veil (accI (L - 1) (pre ++ [b]) = bits BinOp.or IntKind.u32 (A * 2 % 4294967296) b) := hA2
    clear hA2
    gi_wp2
    refine ⟨KeepsOthers.setCell _ _ _, (Below.refl w.heap.size W).setCell (p := ⟨w.heap.size, 0, none⟩) (Nat.le_refl _) _, ⟨?_, by rw [World.frozen?_setCell]; exact hf⟩, hB.setCell (p := ⟨w.heap.size, 0, none⟩) (Nat.le_refl _) _⟩
    have e : accI (L - 1) (pre ++ [b]) = bits BinOp.or IntKind.u32 (A * 2 % 4294967296) b := hA3
    rw [e]
    exact World.cell?_setCell_same' _ _ _ (by rw [hc]; rfl)
  case done =>
    rintro D ys W hD rfl ⟨⟨hc, _⟩, hB⟩ hK
    have e : accI (L - 1) ys = V := hlast'
    rw [e] at hc
    clear hlast' e
    gi_wp2
    refine ⟨by simp, .inl ⟨_, _, rfl, run_takeDeferred hK, ?_⟩⟩
    exact ⟨_, results_tmp rfl _ _ _, rfl, hB.trans (belowK_b (w := w) (Nat.le_refl _) W D _ _ (by simp at hD; omega) hK rfl rfl)⟩
  case stop =>
    rintro D c pre W _ _ h _
    exact h.elim

set_option maxHeartbeats 400000 in
/-- Log2: what the document says; what lay lies. -/
theorem log2_any (x : Int) (w : World) (h0 : 0 ≤ x) (h : x < 4294967296) :
    Calls Try.prog 11 #[.int .u32 x] w fun e w' => e = .returned (.int .u32 (logV x)) ∧ Below w.heap.size w w' := by
  by_cases hx : x = 0
  · subst hx
    go_enter Try.func11, Try.ntmps11
    go_wp2
    go_ret
    exact ⟨rfl, Below.refl _ _⟩
  · exact callsIn_wide.1 (log2_in 3 (by omega) x w h0 h (by omega))
theorem logV_bounds (x : Int) (h0 : 0 ≤ x) (h : x < 4294967296) : 0 ≤ logV x ∧ logV x < 2097152 := by
  have := logN_lt (n := x.toNat) (by omega)
  unfold logV
  omega
end Go.Proofs.Ytgaocmpcjnjmdaa
