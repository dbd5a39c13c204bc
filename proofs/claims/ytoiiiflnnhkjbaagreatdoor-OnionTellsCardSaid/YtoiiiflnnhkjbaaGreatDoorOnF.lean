/-
  slices.Grow of nothing, and slices.Concat of rows of bytes.
-/
import Derived.Test.YtoiiiflnnhkjbaaGreatDoorOnA
namespace Go.Proofs.YtoiiiflnnhkjbaaGreatDoor
set_option linter.unusedVariables false
set_option linter.unusedSimpArgs false
open Go.RowKit

theorem own_none {w : World} {B n c : Nat} {e : TypeId} {A : Option Addr} {xs : List Value} (h : w.ownsRow B e 1 (.slice A n c) n xs) : w.ownsRow B e 1 (.slice A 0 c) 0 [] := by
  refine ⟨rfl, ?_⟩
  rcases h.2 with ⟨hv, h0⟩ | ⟨g, cap, cur, hv, hb, hg, h1, h2, h3, h4⟩
  · injection hv with e1 e2 e3
    subst e1 e3
    exact .inl ⟨rfl, rfl⟩
  · injection hv with e1 e2 e3
    subst e1 e3
    exact .inr ⟨g, c, cur, rfl, hb, hg, Nat.zero_le _, h2, h3, by simp⟩

set_option maxHeartbeats 1000000 in
set_option maxRecDepth 100000 in
theorem grow_nil (n : Nat) (w : World) (h0 : 0 < n) (hn : n ≤ 100000) :
    Calls Tryz.prog 67 #[.slice none 0 0, .int .i64 (n : Int)] w fun e w' => ∃ A c, e = .returned (.slice A 0 c) ∧ w'.ownsRow w.heap.size 5 1 (.slice A 0 c) 0 [] ∧ Below w.heap.size w w' := by
  have hb1 : (0 + n) * 1 ≤ 140737488355328 := by omega
  have hb2 : 0 + n ≤ 140737488355328 := by omega
  have hq : ¬ (n : Int) < 0 := by omega
  have hq2 : (0 : Int) < (n : Int) := by omega
  have hcut := fun (A : Option Addr) (m c : Nat) (w : World) => run_cut0 A m c 0 (Nat.zero_le _) w
  go_enter Tryz.func67, Tryz.ntmps67
  go_wp2_with (at_builtin; refine wpl_app0 one_u8 rfl rfl Tryz.underlying3 rfl (.tmp 20) (.tmp 21) rfl _ w.heap.size (.slice none 0 0) 0 [] rfl ⟨rfl, .inl ⟨rfl, rfl⟩⟩ .i64 (n : Int) n rfl rfl h0 hb1 hb2 (Nat.le_refl _) ?_; intro A1 c1 w1 hown1 hg1 hat1)
  go_ret
  exact ⟨A1, c1, rfl, own_none hown1, (Frm.of_grown hg1).below (Nat.le_refl _) (fun k hk => by cases hk)⟩

set_option maxHeartbeats 4000000 in
set_option maxRecDepth 100000 in
theorem concat_any (PA : Option Addr) (c : Nat) (vs : List Value) (ls : List (List UInt8)) (w : World) (hP : Prts w PA vs ls) (hl : ls.flatten.length ≤ 100000) (hpos : 0 < ls.flatten.length) (hn : ls.length ≤ 1000) :
    Calls Tryz.prog 44 #[.slice PA ls.length c] w (New w.heap.size 5 (cellsB ls.flatten) w) := by
  have HP := hide hP
  clear hP
  obtain ⟨n, hnn⟩ : ∃ n, n = ls.length := ⟨_, rfl⟩
  have HN := hide hnn
  rw [← hnn] at hn ⊢
  clear hnn
  obtain ⟨T, hT⟩ : ∃ T, T = ls.flatten.length := ⟨_, rfl⟩
  have HT := hide hT
  rw [← hT] at hl hpos
  clear hT
  have HG := hide (fun w => grow_nil T w hpos hl)
  go_enter Tryz.func44, Tryz.ntmps44
  go_wp2_with fail
  go_loopw [3, 11] (fun s i wr => ∃ k m : Nat, k ≤ n ∧ i = .int .i64 k ∧ s = .int .i64 m ∧ m = (ls.take k).flatten.length ∧ w = wr) (fun _ i _ => n - (intOf i).toNat)
  case atStart => exact ⟨0, 0, by omega, rfl, rfl, by simp, rfl⟩
  case round =>
    obtain ⟨k, m, hk, rfl, rfl, hm, rfl⟩ := hrel
    by_cases hlt : k < n
    · have hkl : k < ls.length := by rw [← HN.out]; exact hlt
      obtain ⟨v, hv, A, c2, rfl, hc2, hr⟩ := HP.out.2 k hkl
      obtain ⟨pa, rfl, hcell⟩ := HP.out.1.2 (by omega)
      have hc0 := hcell k _ hv
      have hfl := flat_take ls k hkl
      have hle := flat_le ls (k + 1)
      obtain ⟨q, hq⟩ : ∃ q, q = (ls.getD k []).length := ⟨_, rfl⟩
      have hlen : m + q ≤ T := by rw [hfl, List.length_append, ← hm, ← hq, ← HT.out] at hle; exact hle
      have HM : Hid (m + q = (ls.take (k + 1)).flatten.length) := by show _ = _; rw [hfl, List.length_append, ← hm, ← hq]
      rw [← hq] at hc0
      clear hfl hle hr hv hcell hkl hm hq hc2
      have hneg : ¬ (((m + q : Nat) : Int) < 0) := by omega
      have hneg2 : ¬ ((m : Int) + (q : Int) < 0) := by omega
      go_wp2_with fail
      go_roundw
      case rel => first | exact ⟨k + 1, m + q, by omega, by go_num, by go_num, HM.out, rfl⟩ | exact ⟨k + 1, m + q, by omega, by go_num, by go_num, HM.out, trivial⟩
      case measure => simp [intOf]; omega
    · obtain rfl : k = n := by omega
      have hall : ls.take k = ls := List.take_of_length_le (by rw [← HN.out]; exact Nat.le_refl _)
      rw [hall, ← HT.out] at hm
      have hm' := hm.symm
      subst hm'
      clear hall
      go_wp2_with fail
      refine (HG.out w).mono ?_
      rintro e w1 ⟨A1, c1, rfl, hown1, hb1⟩
      have HI : Hid (w1.ownsRow w.heap.size 5 1 (.slice A1 0 c1) 0 (cellsB (ls.take 0).flatten) ∧ Below w.heap.size w w1) := ⟨hown1, hb1⟩
      clear hown1 hb1 HG
      go_wp2_with fail
      go_loopw [6, 27] (fun v i wr => ∃ (j q : Nat) (A : Option Addr) (cc : Nat), j ≤ k ∧ i = .int .i64 j ∧ v = .slice A q cc ∧ q = (ls.take j).flatten.length ∧ (wr.ownsRow w.heap.size 5 1 (.slice A q cc) q (cellsB (ls.take j).flatten) ∧ Below w.heap.size w wr)) (fun _ i _ => k - (intOf i).toNat)
      case atStart => exact ⟨0, 0, A1, c1, by omega, rfl, rfl, by simp, HI.out⟩
      case round =>
        clear HI
        obtain ⟨j, q, A, cc, hj, rfl, rfl, hq, hown, hbel⟩ := hrel
        by_cases hlj : j < k
        · have hkl : j < ls.length := by rw [← HN.out]; exact hlj
          obtain ⟨v, hv, B, c2, rfl, hc2, hr⟩ := HP.out.2 j hkl
          obtain ⟨pa, rfl, hcell⟩ := HP.out.1.2 (by omega)
          have hc0 := hcell j _ hv
          have hc1 : ∀ m, m = (ls.getD j []).length → wr.cell? (pa.add j) = some (.slice B m c2) := by
            rintro m rfl
            rw [hbel.cell (World.block_lt_of_cell? w _ hc0)]; exact hc0
          have hfl := flat_take ls j hkl
          have hle := flat_le ls (j + 1)
          have hr' := hr.below hbel
          obtain ⟨x, hx⟩ : ∃ x, x = ls.getD j [] := ⟨_, rfl⟩
          rw [← hx] at hc1 hfl hr'
          obtain ⟨m, hm⟩ : ∃ m, m = x.length := ⟨_, rfl⟩
          have hcm := hc1 m hm
          rw [← hm] at hr'
          have hlen : q + m ≤ T := by rw [hfl, List.length_append, ← hq, ← hm, ← HT.out] at hle; exact hle
          have HM : Hid (q + m = (ls.take (j + 1)).flatten.length) := by show _ = _; rw [hfl, List.length_append, ← hq, ← hm]
          have HF : Hid (cellsB (ls.take (j + 1)).flatten = cellsB (ls.take j).flatten ++ cellsB x) := by show _ = _; rw [hfl, cellsB_append]
          have hb1 : (q + m) * 1 ≤ 140737488355328 := by omega
          have hb2 : q + m ≤ 140737488355328 := by omega
          have HOW := hide hown
          have HBE := hide hbel
          have HRR := hide hr'
          have hbs := hbel.size
          clear hfl hle hr hv hcell hkl hq hc2 hc0 hc1 hx hm hown hbel hr'
          go_wp2_with (at_builtin; refine wpl_app one_u8 rfl (.tmp 31) (.tmp 32) rfl _ w.heap.size (.slice A q cc) q (cellsB (ls.take j).flatten) rfl HOW.out B m c2 (cellsB x) rfl HRR.out (cellsB_one x) hb1 hb2 hbs ?_; intro A2 c3 w2 hown2 hg2 hat2)
          have hbn : Below w.heap.size w w2 := below_frm HBE.out (Frm.of_grown hg2) HBE.out.size (fun i hi => by
            rcases HOW.out.2 with ⟨h1, _⟩ | ⟨g, cap, cur, h1, h2, _⟩
            · rw [h1] at hi; cases hi
            · rw [h1] at hi; injection hi with hi; simp only at hi; omega)
          rw [← HF.out] at hown2
          go_roundw
          case rel => exact ⟨j + 1, q + m, A2, c3, by omega, by go_num, rfl, HM.out, hown2, hbn⟩
          case measure => simp [intOf]; omega
        · obtain rfl : j = k := by omega
          have hall : ls.take j = ls := List.take_of_length_le (by rw [← HN.out]; exact Nat.le_refl _)
          rw [hall] at hown hq
          have HOW := hide hown
          have HBE := hide hbel
          have hq2 : q = (cellsB ls.flatten).length := by rw [cellsB_length]; exact hq
          have HQ := hide hq2
          clear hown hbel hall hq hq2
          go_wp2_with fail
          go_ret
          refine ⟨A, cc, congrArg (fun k => Ending.returned (.slice A k cc)) HQ.out, ?_, HBE.out⟩
          rw [← HQ.out]
          exact HOW.out
end Go.Proofs.YtoiiiflnnhkjbaaGreatDoor
