/-
  window: the contracts as laws use them; what must be in any case.
-/
import Derived.Test.YtcnnekdeakfjeaaWn2
namespace Go.Proofs.Ytcnnekdeakfjeaa
set_option linter.unusedVariables false
open Go.RowKit

section
variable {s : Nat} {A : Option Addr} {n c : Nat} {d : List Nat} {L K : Nat} {w : World}
/-- What is asked of the arguments. -/
structure Args (w : World) (s : Nat) (A : Option Addr) (n : Nat) (d : List Nat) (L K : Nat) : Prop where
  hs : s < 18446744073709551616
  hL : L < 18446744073709551616
  hK : K < 18446744073709551616
  hd : ∀ x ∈ d, x < 4294967296
  row : Rds w A n (cellsI .u32 d)
theorem Args.below {w' : World} (h : Args w s A n d L K) (hb : Below w.heap.size w w') : Args w' s A n d L K := ⟨h.hs, h.hL, h.hK, h.hd, h.row.below hb⟩
theorem Args.len (h : Args w s A n d L K) : d.length = n := by have := h.row.1; rwa [cellsI_length] at this
theorem win_ok (h : Args w s A n d L K) (h1 : 1 ≤ n) (h5 : n ≤ 5) (hf : FitTo s d L K n) :
    Calls Try.prog 10 #[.int .u64 (s : Int), .slice A n c, .int .u64 (L : Int), .int .u64 (K : Int)] w (Wins w w.heap.size 35 s d L K n) :=
  (win_any s A n c d L K w h.hs h.hL h.hK h.hd h.row h1 h5).mono fun e w' h => by
    rcases h with h | h
    · exact h.2
    · exact absurd hf h.1
theorem win_over (h : Args w s A n d L K) (h1 : 1 ≤ n) (h5 : n ≤ 5) (hf : ¬ FitTo s d L K n) :
    Calls Try.prog 10 #[.int .u64 (s : Int), .slice A n c, .int .u64 (L : Int), .int .u64 (K : Int)] w (NoWins w 9) :=
  (win_any s A n c d L K w h.hs h.hL h.hK h.hd h.row h1 h5).mono fun e w' h => by
    rcases h with h | h
    · exact absurd h.1 hf
    · exact h.2
theorem late_ok (h : Args w s A n d L K) (h1 : 1 ≤ n) (h5 : n ≤ 5) (hf : FitTo s d L K n) (hl : lastN s d L K n < 18446744073709551616) :
    Calls Try.prog 12 #[.int .u64 (s : Int), .slice A n c, .int .u64 (L : Int), .int .u64 (K : Int)] w (fun en w' => en = .returned (.tuple #[.int .u64 (lastN s d L K n : Int), .bool true]) ∧ Below w.heap.size w w') :=
  (late_any s A n c d L K w h.hs h.hL h.hK h.hd h.row).mono fun e w' ⟨⟨v, b, he, hv⟩, hb⟩ => by
    rcases hv with ⟨_, _, _, _, rfl, rfl⟩ | ⟨hn, _⟩
    · exact ⟨he, hb⟩
    · exact absurd ⟨h1, h5, hf, hl⟩ hn
theorem late_not (h : Args w s A n d L K) (hf : ¬ (1 ≤ n ∧ n ≤ 5 ∧ FitTo s d L K n ∧ lastN s d L K n < 18446744073709551616)) :
    Calls Try.prog 12 #[.int .u64 (s : Int), .slice A n c, .int .u64 (L : Int), .int .u64 (K : Int)] w (fun en w' => en = .returned (.tuple #[.int .u64 0, .bool false]) ∧ Below w.heap.size w w') :=
  (late_any s A n c d L K w h.hs h.hL h.hK h.hd h.row).mono fun e w' ⟨⟨v, b, he, hv⟩, hb⟩ => by
    rcases hv with ⟨a1, a2, a3, a4, _⟩ | ⟨_, rfl, rfl⟩
    · exact absurd ⟨a1, a2, a3, a4⟩ hf
    · exact ⟨he, hb⟩
end

theorem fit_two : FitTo 100 [10, 20] 5 2 2 := fit_last (k := 1) (by decide)
theorem not_one : ¬ FitTo 18446744073709551615 [1] 1 0 1 := not_fit (k := 0) (by decide) (by decide)
theorem win_two : winTo 100 [10, 20] 5 2 2 = [(98, 107), (108, 122)] := by decide
theorem mem_lt {M : Nat} (l : List Nat) (h : l.all (fun x => decide (x < M)) = true) : ∀ x ∈ l, x < M := fun x hx => by simpa using List.all_eq_true.1 h x hx

set_option maxHeartbeats 4000000 in
theorem shown_any (w : World) : Calls Try.prog 9 #[] w fun e w' => e = .returned (.bool true) ∧ Below w.heap.size w w' := by
  obtain ⟨O2, hO2⟩ : ∃ O : Obj, O = .cells #[.int .u32 10, .int .u32 20] 42 := ⟨_, rfl⟩
  obtain ⟨O1, hO1⟩ : ∃ O : Obj, O = .cells #[.int .u32 1] 42 := ⟨_, rfl⟩
  have a2 : ∀ W : World, Args (W.alloc O2) 100 (some ⟨W.heap.size, 0, none⟩) 2 [10, 20] 5 2 := fun W => by
    rw [hO2]
    exact ⟨by decide, by decide, by decide, mem_lt _ (by decide), Blk.rds (xs := cellsI .u32 [10, 20]) (Blk.new W _ _)⟩
  have a1 : ∀ W : World, Args (W.alloc O1) 18446744073709551615 (some ⟨W.heap.size, 0, none⟩) 1 [1] 1 0 := fun W => by
    rw [hO1]
    exact ⟨by decide, by decide, by decide, mem_lt _ (by decide), Blk.rds (xs := cellsI .u32 [1]) (Blk.new W _ _)⟩
  rw [hO2] at a2
  rw [hO1] at a1
  have H1 := hide (fun W => win_ok (c := 2) (a2 W) (by decide) (by decide) fit_two)
  have H2 := hide (fun W => late_ok (c := 2) (a2 W) (by decide) (by decide) fit_two (by decide))
  have H3 := hide (fun W => win_over (c := 1) (a1 W) (by decide) (by decide) not_one)
  clear a1 a2 hO1 hO2
  go_enter Try.func9, Try.ntmps9
  go_wp2_with fail
  refine (H1.out w).mono ?_
  rintro e w1 ⟨A, c, rfl, ho, hb⟩
  rw [win_two] at ho
  have HO1 := hide ho
  have HB1 := hide (below_frm (below1 w (.cells #[.int .u32 10, .int .u32 20] 42)) (Frm.of_below (S := fun _ => False) hb) (by simp) (fun _ h => h.elim))
  clear ho hb H1
  go_wp2_with fail
  refine (H2.out w1).mono ?_
  rintro e w2 ⟨rfl, hb⟩
  have F2 : Frm (fun _ => False) w1 w2 := (Frm.alloc w1 _ _).trans (Frm.of_below (S := fun _ => False) hb) (fun _ _ h => h)
  have HO2 := hide (HO1.out.frm F2 (fun _ _ h => h))
  have HB2 := hide (below_frm HB1.out F2 HB1.out.size (fun _ h => h.elim))
  clear hb H2 HO1 HB1 F2
  have hl : ((lastN 100 [10, 20] 5 2 2 : Nat) : Int) = 142 := by decide
  rw [hl]
  clear hl
  go_wp2_with fail
  refine (H3.out w2).mono ?_
  rintro e w3 ⟨rfl, hb⟩
  have F3 : Frm (fun _ => False) w2 w3 := (Frm.alloc w2 _ _).trans (Frm.of_below (S := fun _ => False) hb) (fun _ _ h => h)
  have HO3 := hide (HO2.out.frm F3 (fun _ _ h => h))
  have HB3 := hide (below_frm HB2.out F3 HB2.out.size (fun _ h => h.elim))
  clear hb H3 HO2 HB2 F3
  obtain ⟨g, rfl, hg1, hg2, hc⟩ := HO3.out.cells (by decide)
  have c0 : w3.cell? ⟨g, 0, none⟩ = some (.int .u64 98) := (hc 0 (by decide)).1
  have c1 : w3.cell? ⟨g, 1, none⟩ = some (.int .u64 107) := (hc 0 (by decide)).2
  have c2 : w3.cell? ⟨g, 2, none⟩ = some (.int .u64 108) := (hc 1 (by decide)).1
  have c3 : w3.cell? ⟨g, 3, none⟩ = some (.int .u64 122) := (hc 1 (by decide)).2
  clear hc HO3
  have B3 : Hid (Blk (w3.alloc (.cells #[.int .u64 3, .int .u64 5] 35)) w3.heap.size 35 #[.int .u64 3, .int .u64 5]) := Blk.new _ _ _
  have HB4 := hide (below_frm HB3.out (Frm.alloc w3 (.cells #[.int .u64 3, .int .u64 5] 35) (fun _ => False)) HB3.out.size (fun _ h => h.elim))
  go_wp2_with fail
  refine (has_any 3 5 2 _).mono ?_
  rintro e w4 ⟨rfl, hb⟩
  have hv1 : hasV 3 5 2 = 5 := by decide
  have F4 : Frm (fun _ => False) _ w4 := Frm.of_below hb
  have B4 := B3.out.frm F4 id
  have d0 : w4.cell? ⟨w3.heap.size, 0, none⟩ = some (.int .u64 3) := B4.cell 0
  have d1 : w4.cell? ⟨w3.heap.size, 1, none⟩ = some (.int .u64 5) := B4.cell 1
  have HB5 := hide (below_frm HB4.out F4 HB4.out.size (fun _ h => h.elim))
  clear hb F4 B4 B3 HB4 c0 c1 c2 c3 HB3
  rw [hv1]
  clear hv1
  go_wp2_with fail
  refine (has_any 3 5 6 _).mono ?_
  rintro e w5 ⟨rfl, hb⟩
  have hv1 : hasV 3 5 6 = 6 := by decide
  have HB6 := hide (below_frm HB5.out (Frm.of_below (S := fun _ => False) hb) HB5.out.size (fun _ h => h.elim))
  clear hb HB5 d0 d1
  rw [hv1]
  clear hv1
  go_wp2_with fail
  go_ret
  exact ⟨rfl, HB6.out⟩
end Go.Proofs.Ytcnnekdeakfjeaa
