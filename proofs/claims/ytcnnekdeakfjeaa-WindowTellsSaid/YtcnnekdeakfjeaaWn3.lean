/-
  The document's numbers of two words, earliest and hi, by contracts. What lay when a call began lies as it lay.
-/
import Derived.Test.YtcnnekdeakfjeaaWn2
namespace Go.Proofs.Ytcnnekdeakfjeaa
set_option linter.unusedVariables false
open Go.RowKit

/-- The words of a number. -/
def bh (N : Nat) : Int := ((N / 18446744073709551616 : Nat) : Int)
def bl (N : Nat) : Int := ((N % 18446744073709551616 : Nat) : Int)
def bigV (N : Nat) : List Value := [.int .u64 (bh N), .int .u64 (bl N)]
theorem agg_big : Agg Try.prog 53 2 := Agg.of (by kernel_rfl) (by kernel_rfl)
theorem two_one (k : IntKind) (a b : Int) : ∀ v ∈ [Value.int k a, Value.int k b], v.oneCell' = true := by
  intro v hv
  rcases List.mem_cons.1 hv with rfl | hv
  · rfl
  · rcases List.mem_cons.1 hv with rfl | hv
    · rfl
    · cases hv
theorem below3 (w : World) (o o' o'' : Obj) : Below w.heap.size w (((w.alloc o).alloc o').alloc o'') :=
  (Frm.of_below (S := fun _ => False) (below2 w o o')).trans (Frm.alloc _ o'' (fun _ => False)) (fun _ _ h => h) |>.below (Nat.le_refl _) (fun _ h => h.elim)

set_option maxHeartbeats 400000 in
theorem plus_lo (h l b : Int) (w : World) (hl : 0 ≤ l) (hl1 : l < 18446744073709551616) (hb : 0 ≤ b) (hb1 : b < 18446744073709551616) (hs : l + b < 18446744073709551616) :
    Calls Try.prog 21 #[.agg #[.int .u64 h, .int .u64 l], .int .u64 b] w fun e w' => e = .returned (.agg #[.int .u64 h, .int .u64 (l + b)]) ∧ Below w.heap.size w w' := by
  have hn : ¬ (l + b < l) := by omega
  go_enter Try.func21, Try.ntmps21
  go_wp2_with fail
  exact ret_agg agg_big rfl rfl _ _ [_, _] rfl ((Blk.new2 _ _ _ _).frm (Frm.alloc _ _ (fun _ => False)) id) rfl ⟨rfl, below3 _ _ _ _⟩
set_option maxHeartbeats 400000 in
theorem plus_hi (h l b m : Int) (w : World) (hh : 0 ≤ h) (hh1 : h < 1000) (hm : IntKind.u64.wrap (l + b) = m) (hs : m < l) :
    Calls Try.prog 21 #[.agg #[.int .u64 h, .int .u64 l], .int .u64 b] w fun e w' => e = .returned (.agg #[.int .u64 (h + 1), .int .u64 m]) ∧ Below w.heap.size w w' := by
  go_enter Try.func21, Try.ntmps21
  go_wp2_with fail
  exact ret_agg agg_big rfl rfl _ _ [_, _] rfl ((Blk.new2 _ _ _ _).frm (Frm.alloc _ _ (fun _ => False)) id) rfl ⟨rfl, below3 _ _ _ _⟩

theorem plus_any (N b : Nat) (w : World) (hN : N < 18446744073709551616000) (hb : b < 18446744073709551616) :
    Calls Try.prog 21 #[.agg #[.int .u64 (bh N), .int .u64 (bl N)], .int .u64 (b : Int)] w fun e w' => e = .returned (.agg #[.int .u64 (bh (N + b)), .int .u64 (bl (N + b))]) ∧ Below w.heap.size w w' := by
  by_cases hs : N % 18446744073709551616 + b < 18446744073709551616
  · have e1 : bh (N + b) = bh N := by unfold bh; omega
    have e2 : bl (N + b) = bl N + (b : Int) := by unfold bl; omega
    rw [e1, e2]
    exact plus_lo (bh N) (bl N) b w (by unfold bl; omega) (by unfold bl; omega) (by omega) (by omega) (by unfold bl; omega)
  · have e1 : bh (N + b) = bh N + 1 := by unfold bh; omega
    rw [e1]
    exact plus_hi (bh N) (bl N) b (bl (N + b)) w (by unfold bh; omega) (by unfold bh; omega) (by rw [u64wrap]; unfold bl; omega) (by unfold bl; omega)

/-- A number in a variable of its own, and another variable. -/
structure ESt (w : World) (N : Nat) (wr : World) : Prop where
  b0 : ∃ x y, Blk wr w.heap.size 53 #[.int .u64 x, .int .u64 y]
  b1 : Blk wr (w.heap.size + 1) 53 #[.int .u64 (bh N), .int .u64 (bl N)]
  below : Below w.heap.size w wr
section
variable {w wr w1 : World} {N M : Nat}
theorem ESt.call (h : ESt w N wr) (hb : Below wr.heap.size wr w1) : ESt w N w1 := by
  have f : Frm (fun _ => False) wr w1 := Frm.of_below hb
  obtain ⟨x, y, h0⟩ := h.b0
  exact ⟨⟨x, y, h0.frm f id⟩, h.b1.frm f id, below_frm h.below f h.below.size (fun _ h => h.elim)⟩
theorem ESt.set1 (h : ESt w N wr) (hb : Blk w1 (w.heap.size + 1) 53 #[.int .u64 (bh M), .int .u64 (bl M)]) (f : Frm (fun k => k = w.heap.size + 1) wr w1) : ESt w M w1 := by
  obtain ⟨x, y, h0⟩ := h.b0
  exact ⟨⟨x, y, h0.frm f (by omega)⟩, hb, below_frm h.below f h.below.size (fun k e => by omega)⟩
theorem ESt.drewN (h : ESt w N wr) (q : Nat) : ESt w N (wr.drewN q) := ⟨h.b0, h.b1, below_drewN h.below q⟩
end
theorem getD_lt {d : List Nat} {M : Nat} (h : ∀ x ∈ d, x < M) {k : Nat} (hk : k < d.length) : d.getD k 0 < M := by
  rw [List.getD_eq_getElem?_getD, List.getElem?_eq_getElem hk]
  exact h _ (List.getElem_mem hk)
theorem sum_take_lt {M : Nat} : ∀ (d : List Nat) (k : Nat), (∀ x ∈ d, x < M) → (d.take k).sum ≤ k * M
  | [], k, h => by simp
  | x :: d, 0, h => by simp
  | x :: d, k + 1, h => by
    have h1 := sum_take_lt d k (fun y hy => h y (List.mem_cons_of_mem _ hy))
    have h2 := h x (List.mem_cons_self ..)
    simp only [List.take_succ_cons, List.sum_cons, Nat.add_mul]
    omega
theorem earl_lt {s : Nat} {d : List Nat} (hs : s < 18446744073709551616) (hd : ∀ x ∈ d, x < 4294967296) (k : Nat) (hk : k ≤ 5) : earl s d k < 18446744073709551616 + 21474836480 := by
  have := sum_take_lt d k hd
  unfold earl
  omega

set_option maxHeartbeats 2000000 in
theorem rearl_any (s : Nat) (A : Option Addr) (n c i : Nat) (d : List Nat) (w : World) (hs : s < 18446744073709551616) (hd : ∀ x ∈ d, x < 4294967296)
    (hA : Rds w A n (cellsI .u32 d)) (hi : i ≤ n) (h5 : n ≤ 5) :
    Calls Try.prog 18 #[.int .u64 (s : Int), .slice A n c, .int .i64 (i : Int)] w (fun en w' => en = .returned (.agg #[.int .u64 (bh (earl s d i)), .int .u64 (bl (earl s d i))]) ∧ Below w.heap.size w w') := by
  have hal : d.length = n := by have := hA.1; rwa [cellsI_length] at this
  have HAL := hide hal
  have HA := hide hA
  have HD := hide hd
  have HS := hide hs
  have HE := hide (fun k (hk : k ≤ 5) => earl_lt hs hd k hk)
  have h0 : bh s = 0 := by unfold bh; omega
  have h1 : bl s = (s : Int) := by unfold bl; omega
  have HI0 : Hid (ESt w s ((w.alloc (.cells #[.int .u64 0, .int .u64 0] 53)).alloc (.cells #[.int .u64 0, .int .u64 (s : Int)] 53))) := by
    refine ⟨⟨_, _, (Blk.new _ _ _).frm (Frm.alloc _ _ (fun _ => False)) id⟩, ?_, below2 _ _ _⟩
    rw [h0, h1]
    exact Blk.new2 _ _ _ _
  clear hA hal hd hs h0 h1
  go_enter Try.func18, Try.ntmps18
  go_wp2_with fail
  go_loopw [8] (fun v wr => ∃ (k : Nat), k ≤ i ∧ v = .int .i64 k ∧ ESt w (earl s d k) wr) (fun v _ => i - (intOf v).toNat)
  case atStart => exact ⟨0, by omega, rfl, by rw [earl_zero]; exact HI0.out⟩
  case round =>
    obtain ⟨k, hk, rfl, ht⟩ := hrel
    have HT := hide ht
    clear ht HI0
    by_cases hlt : k < i
    · have hki : (k : Int) < (i : Int) := by omega
      have hkn : k < n := by omega
      have hkn2 : (k : Int) < (n : Int) := by omega
      obtain ⟨pa, rfl, hca⟩ := HA.out.2 (by omega)
      have ca0 := hca k _ (cellsI_at d k (by rw [HAL.out]; omega))
      have ca : wr.drew.cell? (pa.add k) = some (.int .u32 ((d.getD k 0 : Nat) : Int)) := by
        show wr.cell? _ = _
        rw [HT.out.below.cell (World.block_lt_of_cell? _ _ ca0)]
        exact ca0
      have HX := hide (getD_lt HD.out (k := k) (by rw [HAL.out]; omega))
      have HES := hide (earl_succ s d k (by rw [HAL.out]; omega))
      have HEL := hide (HE.out k (by omega))
      clear ca0 hca
      generalize d.getD k 0 = x at *
      have hxw : IntKind.u64.wrap (x : Int) = (x : Int) := by rw [u64wrap]; have := HX.out; omega
      obtain ⟨N, hN⟩ : ∃ N, N = earl s d k := ⟨_, rfl⟩
      rw [← hN] at HT HES HEL
      have cb0 : wr.drew.cell? ⟨w.heap.size + 1, 0, none⟩ = some (.int .u64 (bh N)) := HT.out.b1.cell 0
      have cb1 : wr.drew.cell? ⟨w.heap.size + 1, 1, none⟩ = some (.int .u64 (bl N)) := HT.out.b1.cell 1
      clear hN
      go_wp2_with fail
      refine wp_region_still_tail 6 (by kernel_rfl) (by kernel_rfl) ?_
      simp only [List.take_succ_cons, List.take_zero, List.drop_succ_cons, List.drop_zero]
      change wpStill _ _ wr.drew (fun a' => wpList _ _ _ _ a' wr.drew) _ _
      iterate 6 still_step
      refine wpStill_nil ?_
      have HT1 := hide (HT.out.drewN 1)
      clear cb0 cb1 ca HT
      go_wp2_with fail
      refine (plus_any N x _ (by have := HEL.out; omega) (by have := HX.out; omega)).mono ?_
      rintro e w2 ⟨rfl, hb2⟩
      have HT2 := hide (HT1.out.call hb2)
      rw [← HES.out]
      clear hb2 HT1
      obtain ⟨M, hM⟩ : ∃ M, M = earl s d (k + 1) := ⟨_, rfl⟩
      rw [← hM]
      have HM := hide hM
      clear hM
      go_wp2_with (refine wpl_storea agg_big rfl (.tmp 7) (.tmp 22) rfl (w.heap.size + 1) [.int .u64 (bh M), .int .u64 (bl M)] rfl rfl _ _ HT2.out.b1 rfl rfl (two_one _ _ _) ?_; intro w3 hb3 hf3; have HT3 := hide (HT2.out.set1 hb3 hf3); clear hb3 hf3)
      go_roundw
      case rel => exact ⟨k + 1, by omega, by go_num, by rw [← HM.out]; exact HT3.out⟩
      case measure => simp [intOf]; omega
    · obtain rfl : k = i := by omega
      have hkk : ¬ ((k : Int) < (k : Int)) := by omega
      obtain ⟨N, hN⟩ : ∃ N, N = earl s d k := ⟨_, rfl⟩
      rw [← hN] at HT
      obtain ⟨x0, y0, hb0⟩ := HT.out.b0
      have HB0 := hide hb0
      have HN := hide hN
      clear hb0 hN
      go_wp2_with (first | (refine wpl_loada agg_big rfl (.tmp 7) rfl (w.heap.size + 1) 0 rfl _ [.int .u64 (bh N), .int .u64 (bl N)] [.int .u64 (bh N), .int .u64 (bl N)] HT.out.b1 rfl (by simp) ?_) | (refine wpl_storea agg_big rfl (.tmp 6) (.tmp 23) rfl w.heap.size [.int .u64 (bh N), .int .u64 (bl N)] rfl rfl _ _ HB0.out rfl rfl (two_one _ _ _) ?_; intro w3 hb3 hf3))
      exact ret_agg agg_big rfl rfl _ _ [_, _] rfl hb3 rfl ⟨by rw [HN.out], below_frm HT.out.below hf3 HT.out.below.size (fun k e => by omega)⟩
end Go.Proofs.Ytcnnekdeakfjeaa
