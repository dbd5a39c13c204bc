/-
  OctetsStays: the walk.
-/
import Derived.Test.YtiamopkdapdpaaaMore
import Derived.Deep.RegionHeld3
namespace Go.Proofs.Ytiamopkdapdpaaa
set_option linter.unusedVariables false
open Go.RowKit

theorem quiet_same {P : Program} {f : FuncId} {args : Array Value} {w : World} {n : Nat} {v : Value}
    (h : Calls P f args (w.drewN n) fun e w' => e = .returned v ∧ w.drewN n = w') : Calls P f args (w.drewN n) fun e w'' => e = .returned v ∧ ∃ m, w'' = w.drewN m :=
  h.mono fun _ _ ⟨he, hm⟩ => ⟨he, n, hm.symm⟩

set_option maxHeartbeats 8000000 in
set_option maxRecDepth 100000 in
theorem stays_walk_some (a0 : Option Addr) (len0 cap0 : Nat) (lb : List UInt8) (ad : Addr) (len1 cap1 : Nat) (ls : List UInt8) (w : World) (h0 : Rds w a0 len0 (cellsB lb)) (hc0 : len0 ≤ cap0) (hm0 : cap0 ≤ 9223372036854775807) (h1 : Rds w (some ad) len1 (cellsB ls)) (hc1 : len1 ≤ cap1) (hm1 : cap1 ≤ 9223372036854775807) :
    Calls Try.prog 9 #[.slice a0 len0 cap0, .slice (some ad) len1 cap1] w fun e w' => e = .returned (.bool true) ∧ Below w.heap.size w w' := by
  obtain ⟨m, HM, hm1, hm2⟩ := nat_min len0 200
  have HR := hide (h0.take m hm1)
  rw [cellsB_take] at HR
  have HL : Hid ((lb.take m).length = m) := by have := HR.out.1; rwa [cellsB_length] at this
  generalize lb.take m = xb at *
  have HS := hide h1
  clear h1
  go_enter Try.func9, Try.ntmps9
  go_wp2_with fail
  refine (shown_any _).mono ?_
  rintro e w1 ⟨rfl, hb1⟩
  go_wp2_with (first | (refine wpl_min rfl (.tmp 22) (.const (.int .i64 200)) _ _ rfl _ (len0 : Int) 200 (m : Int) rfl rfl HM.out ?_) | fail)
  refine (read_any2 a0 m cap0 xb _ (HR.out.below hb1) (by omega)).mono ?_
  rintro e w2 ⟨g1, d1, rfl, hrd, hb2, hg, hd⟩
  have hb2' := hb1.trans (hb2.mono hb1.size)
  have hg1 : w.heap.size ≤ g1 := Nat.le_trans hb1.size hg
  have Hd1 : Hid (∀ k, d1 = some k → k < g1) := fun k hk => (hd k hk).2
  have hgl1 := hrd.lt
  clear hd hb2 hg hb1
  go_wp2_with fail
  refine (read_any2 a0 m cap0 xb _ (HR.out.below hb2') (by omega)).mono ?_
  rintro e w3 ⟨g2, d2, rfl, hrdb, hb3, hg, hd⟩
  have hb3' := hb2'.trans (hb3.mono hb2'.size)
  have hrda : Rd w3 g1 d1 xb := hrd.frm (S := fun _ => False) (Frm.of_below hb3) (fun h => h) (fun _ _ h => h)
  have hg2 : g1 < g2 := by omega
  have Hd2 : Hid (∀ k, d2 = some k → g1 < k ∧ k < g2) := fun k hk => ⟨by have := (hd k hk).1; omega, (hd k hk).2⟩
  clear hd hb3 hg hb2' hrd hgl1
  go_wp2_with fail
  go_loopw [8] (fun i wr => ∃ k j : Nat, k ≤ len1 ∧ k ≤ 40 ∧ j ≤ m ∧ i = .int .i64 k ∧ Rd wr g1 d1 (xb.drop j) ∧ Rd wr g2 d2 (xb.drop j) ∧ Below w.heap.size w wr) (fun i _ => 40 - (intOf i).toNat)
  case atStart => exact ⟨0, 0, by omega, by omega, by omega, rfl, hrda, hrdb, hb3'⟩
  case round =>
    obtain ⟨k, j, hk1, hk2, hj, rfl, hrd1, hrd2, hbj⟩ := hrel
    have HLJ : Hid ((xb.drop j).length = m - j) := by rw [List.length_drop, HL.out]; rfl
    by_cases hlt : k < len1
    · by_cases hlt2 : k < 40
      · obtain ⟨ad', e1, hcell⟩ := HS.out.2 (by omega)
        injection e1 with e1
        subst e1
        have hck0 := hcell k (.int .u8 ((ls.getD k 0).toNat : Int)) (by rw [cellsB_get]; have h := HS.out.1; rw [cellsB_length] at h; rw [List.getElem?_eq_getElem (by omega)]; simp [List.getD, List.getElem?_eq_getElem (show k < ls.length by omega)])
        have hby := (ls.getD k 0).toNat_lt
        generalize (ls.getD k 0).toNat = y at *
        have HCK : Hid (∀ W, Below w.heap.size w W → W.cell? (ad.add k) = some (.int .u8 (y : Int))) := by
          intro W hW
          have hlt := World.block_lt_of_cell? _ _ hck0
          rw [hW.cell hlt]
          exact hck0
        have hck := HCK.out wr hbj
        clear hcell hck0
        obtain ⟨nn, hyn⟩ : ∃ nn : Nat, (y : Int) % 10 = (nn : Int) := ⟨y % 10, by omega⟩
        have hnn : nn < 10 := by omega
        generalize hr : xb.drop j = r at *
        have HRJ := hide hr
        clear hr
        have hrl : r.length ≤ 200 := by have := HLJ.out; omega
        have hq2 : decide ((k : Int) < 40) = true := by simp; omega
        have hw1 : IntKind.i64.wrap ((r.length : Int) + 1) = (r.length : Int) + 1 := IntWalk.i64_in _ (by omega)
        have hw2 : IntKind.i64.wrap ((r.length : Int) + 1 + (y : Int)) = (r.length : Int) + 1 + (y : Int) := IntWalk.i64_in _ (by omega)
        have hw3 : IntKind.i64.wrap (y : Int) = (y : Int) := IntWalk.i64_in _ (by omega)
        have hk0 : (0 : Int) ≤ (k : Int) := by omega
        have hkl : (k : Int) < (len1 : Int) := by omega
        have hrq : ∀ q, Rd (wr.drewN q) g1 d1 r := fun _ => hrd1
        have Hrq := hide hrq
        clear hrq
        have hr100 : r.length ≤ 100000 := by omega
        have hlong : (r.length : Int) < (r.length : Int) + 1 + (y : Int) := by omega
        go_wp2_with fail
        go_quiet (first | (go_at_call 17; exact quiet_same (left_any g1 d1 r _ (Hrq.out _) hr100)) | (go_at_call 14; exact quiet_same (bytes_short g1 d1 r _ _ (Hrq.out _) hlong hr100)))
        have hrdW1 : Rd (wr.drewN nq) g1 d1 r := hrd1
        have hrdW2 : Rd (wr.drewN nq) g2 d2 r := hrd2
        have hbW : Below w.heap.size w (wr.drewN nq) := below_drewN hbj nq
        have hckW : (wr.drewN nq).cell? (ad.add k) = some (.int .u8 (y : Int)) := hck
        generalize wr.drewN nq = W at *
        clear hw1 hw2 hlong
        have hlt1 := hrdW1.lt
        have hlt2' := hrdW2.lt
        go_wp2_with fail
        refine (bytes_neg g1 _ _ (by omega)).mono ?_
        rintro e w4 ⟨rfl, rfl⟩
        go_wp2_with fail
        refine (left_any g1 d1 r _ hrdW1 hr100).mono ?_
        rintro e w4 ⟨rfl, rfl⟩
        by_cases h8 : r.length < 8
        · go_wp2_with fail
          refine (u64_short g1 d1 r _ hrdW1 h8 hr100).mono ?_
          rintro e w4 ⟨rfl, rfl⟩
          by_cases hle : nn ≤ r.length
          · go_wp2_with fail
            refine (bytes_ok g1 d1 r nn _ hrdW1 (by omega) (by omega) hr100).mono ?_
            rintro e w5 ⟨A5, c5, rfl, hown5, hrd5, hf5⟩
            rw [Int.toNat_natCast] at hown5 hrd5 ⊢
            have hb5 := below_frm hbW hf5 hbW.size (fun k hk => by omega)
            have hck5 := HCK.out w5 hb5
            have hrd25 : Rd w5 g2 d2 r := hrdW2.frm hf5 (by omega) (fun k hk => by have := Hd2.out k hk; omega)
            go_wp2_with fail
            refine (bytes_ok g2 d2 r nn _ hrd25 (by omega) (by omega) hr100).mono ?_
            rintro e w6 ⟨A6, c6, rfl, hown6, hrd6, hf6⟩
            rw [Int.toNat_natCast] at hown6 hrd6 ⊢
            have hb6 := below_frm hb5 hf6 hb5.size (fun k hk => by omega)
            have hcv5 := conv_rds (P := Try.prog) w6 22 9 5 Try.underlying22 Try.underlying5 Try.underlying9 A5 _ c5 _ (Seg.of_own (own_frm hown5 hf6 (fun k hk => by have := (hown5.lt k hk).1; omega))).rds
            have hcv6 := conv_rds (P := Try.prog) w6 22 9 5 Try.underlying22 Try.underlying5 Try.underlying9 A6 _ c6 _ (Seg.of_own hown6).rds
            have hrd16 : Rd w6 g1 d1 (r.drop nn) := hrd5.frm hf6 (by omega) (fun k hk => by have := Hd1.out k hk; omega)
            have HRD : Hid (r.drop nn = xb.drop (j + nn)) := by rw [← HRJ.out, List.drop_drop]; rfl
            have hjn : j + nn ≤ m := by have := HLJ.out; omega
            have hr2l : (r.drop nn).length ≤ 100000 := by rw [List.length_drop]; omega
            generalize r.drop nn = r2 at *
            go_wp2_with fail
            refine (left_any g1 d1 r2 _ hrd16 hr2l).mono ?_
            rintro e w7 ⟨rfl, rfl⟩
            go_wp2_with fail
            refine (left_any g2 d2 r2 _ hrd6 hr2l).mono ?_
            rintro e w7 ⟨rfl, rfl⟩
            go_wp2
            go_roundw
            case rel => exact ⟨k + 1, j + nn, by omega, by omega, hjn, by go_num, by rw [← HRD.out]; exact hrd16, by rw [← HRD.out]; exact hrd6, hb6⟩
            case measure => simp [intOf]; omega
          · go_wp2_with fail
            refine (bytes_short g1 d1 r nn _ hrdW1 (by omega) hr100).mono ?_
            rintro e w5 ⟨rfl, rfl⟩
            go_wp2_with fail
            refine (bytes_short g2 d2 r nn _ hrdW2 (by omega) hr100).mono ?_
            rintro e w5 ⟨rfl, rfl⟩
            have hcv := conv_rds (P := Try.prog) W 22 9 5 Try.underlying22 Try.underlying5 Try.underlying9 none 0 0 [] ⟨rfl, fun h => by omega⟩
            go_wp2_with fail
            refine (left_any g1 d1 r _ hrdW1 hr100).mono ?_
            rintro e w7 ⟨rfl, rfl⟩
            go_wp2_with fail
            refine (left_any g2 d2 r _ hrdW2 hr100).mono ?_
            rintro e w7 ⟨rfl, rfl⟩
            go_wp2
            go_roundw
            case rel => exact ⟨k + 1, j, by omega, by omega, hj, by go_num, by rw [HRJ.out]; exact hrdW1, by rw [HRJ.out]; exact hrdW2, hbW⟩
            case measure => simp [intOf]; omega
        · skip
          by_cases hle : nn ≤ r.length
          · go_wp2_with fail
            refine (bytes_ok g1 d1 r nn _ hrdW1 (by omega) (by omega) hr100).mono ?_
            rintro e w5 ⟨A5, c5, rfl, hown5, hrd5, hf5⟩
            rw [Int.toNat_natCast] at hown5 hrd5 ⊢
            have hb5 := below_frm hbW hf5 hbW.size (fun k hk => by omega)
            have hck5 := HCK.out w5 hb5
            have hrd25 : Rd w5 g2 d2 r := hrdW2.frm hf5 (by omega) (fun k hk => by have := Hd2.out k hk; omega)
            go_wp2_with fail
            refine (bytes_ok g2 d2 r nn _ hrd25 (by omega) (by omega) hr100).mono ?_
            rintro e w6 ⟨A6, c6, rfl, hown6, hrd6, hf6⟩
            rw [Int.toNat_natCast] at hown6 hrd6 ⊢
            have hb6 := below_frm hb5 hf6 hb5.size (fun k hk => by omega)
            have hcv5 := conv_rds (P := Try.prog) w6 22 9 5 Try.underlying22 Try.underlying5 Try.underlying9 A5 _ c5 _ (Seg.of_own (own_frm hown5 hf6 (fun k hk => by have := (hown5.lt k hk).1; omega))).rds
            have hcv6 := conv_rds (P := Try.prog) w6 22 9 5 Try.underlying22 Try.underlying5 Try.underlying9 A6 _ c6 _ (Seg.of_own hown6).rds
            have hrd16 : Rd w6 g1 d1 (r.drop nn) := hrd5.frm hf6 (by omega) (fun k hk => by have := Hd1.out k hk; omega)
            have HRD : Hid (r.drop nn = xb.drop (j + nn)) := by rw [← HRJ.out, List.drop_drop]; rfl
            have hjn : j + nn ≤ m := by have := HLJ.out; omega
            have hr2l : (r.drop nn).length ≤ 100000 := by rw [List.length_drop]; omega
            generalize r.drop nn = r2 at *
            go_wp2_with fail
            refine (left_any g1 d1 r2 _ hrd16 hr2l).mono ?_
            rintro e w7 ⟨rfl, rfl⟩
            go_wp2_with fail
            refine (left_any g2 d2 r2 _ hrd6 hr2l).mono ?_
            rintro e w7 ⟨rfl, rfl⟩
            go_wp2
            go_roundw
            case rel => exact ⟨k + 1, j + nn, by omega, by omega, hjn, by go_num, by rw [← HRD.out]; exact hrd16, by rw [← HRD.out]; exact hrd6, hb6⟩
            case measure => simp [intOf]; omega
          · go_wp2_with fail
            refine (bytes_short g1 d1 r nn _ hrdW1 (by omega) hr100).mono ?_
            rintro e w5 ⟨rfl, rfl⟩
            go_wp2_with fail
            refine (bytes_short g2 d2 r nn _ hrdW2 (by omega) hr100).mono ?_
            rintro e w5 ⟨rfl, rfl⟩
            have hcv := conv_rds (P := Try.prog) W 22 9 5 Try.underlying22 Try.underlying5 Try.underlying9 none 0 0 [] ⟨rfl, fun h => by omega⟩
            go_wp2_with fail
            refine (left_any g1 d1 r _ hrdW1 hr100).mono ?_
            rintro e w7 ⟨rfl, rfl⟩
            go_wp2_with fail
            refine (left_any g2 d2 r _ hrdW2 hr100).mono ?_
            rintro e w7 ⟨rfl, rfl⟩
            go_wp2
            go_roundw
            case rel => exact ⟨k + 1, j, by omega, by omega, hj, by go_num, by rw [HRJ.out]; exact hrdW1, by rw [HRJ.out]; exact hrdW2, hbW⟩
            case measure => simp [intOf]; omega
      · have hq2 : decide ((k : Int) < 40) = false := by simp; omega
        have hq1 : decide ((k : Int) < (len1 : Int)) = true := by simp; omega
        generalize hr : xb.drop j = r at *
        have hrl : r.length ≤ 200 := by have := HLJ.out; omega
        have hrdD1 : Rd wr.drew g1 d1 r := hrd1
        have hrdD2 : Rd wr.drew g2 d2 r := hrd2
        have hlt1 := hrd1.lt
        have hlt2 := hrd2.lt
        have hr100 : r.length ≤ 100000 := by omega
        clear hr
        go_wp2_with fail
        refine wp_region_held_drew (S := fun _ => True) (by kernel_rfl) (trivial) ?_
        intro hHeld
        refine wpAnyH_take (i := 0) (v := ?v1) rfl (by kernel_rfl) (by kernel_rfl) (by kernel_rfl) (fun _ _ _ h => h) (Or.inl ⟨by rfl, ?hy1⟩) (by assumption) ?rest1
        case hy1 => (intro w hSw; (try dsimp only at hSw); go_simp; try with_reducible rfl)
        try simp only [Act.put, List.getElem_toArray, List.getElem_cons_zero, List.setIfInBounds_toArray, List.set_cons_zero, List.set_cons_succ]
        refine wpAnyH_take (i := 1) (v := ?v2) rfl (by kernel_rfl) (by kernel_rfl) (by kernel_rfl) (fun _ _ _ h => h) (Or.inl ⟨by rfl, ?hy2⟩) (by assumption) ?rest2
        case hy2 => (intro w hSw; (try dsimp only at hSw); go_simp; try with_reducible rfl)
        try simp only [Act.put, List.getElem_toArray, List.getElem_cons_zero, List.getElem_cons_succ, List.setIfInBounds_toArray, List.set_cons_zero, List.set_cons_succ]
        refine wpAnyH_take (i := 2) (v := ?v3) rfl (by kernel_rfl) (by kernel_rfl) (by kernel_rfl) (fun _ _ _ h => h) (Or.inl ⟨by rfl, ?hy3⟩) (by assumption) ?rest3
        case hy3 => (intro w hSw; (try dsimp only at hSw); go_simp; try with_reducible rfl)
        try simp only [Act.put, List.getElem_toArray, List.getElem_cons_zero, List.getElem_cons_succ, List.setIfInBounds_toArray, List.set_cons_zero, List.set_cons_succ]
        refine wpAnyH_take (i := 5) (v := ?v4) rfl (by kernel_rfl) (by kernel_rfl) (by kernel_rfl) (fun _ _ _ h => h) (Or.inl ⟨by rfl, ?hy4⟩) (by assumption) ?rest4
        case hy4 => (intro w hSw; (try dsimp only at hSw); go_simp; try with_reducible rfl)
        try simp only [Act.put, List.getElem_toArray, List.getElem_cons_zero, List.getElem_cons_succ, List.setIfInBounds_toArray, List.set_cons_zero, List.set_cons_succ]
        refine wpAnyH_ready (rs := [3]) (by kernel_rfl) (by simp) ?_
        refine AllReadyH.cons rfl (fun K hK => ?_) AllReadyH.nil
        go_simp
        refine (rest_any g1 d1 r _ hrdD1 hr100).mono ?_
        rintro e w6 ⟨A6, c6, rfl, hown6, hrd6, hf6⟩
        have hb6 := below_frm hbj.drew hf6 hbj.size (fun k hk => by omega)
        have hcv6 := conv_rds (P := Try.prog) w6 22 9 5 Try.underlying22 Try.underlying5 Try.underlying9 A6 _ c6 r (Seg.of_own hown6).rds
        have hrs6 : Rd w6 g2 d2 r := hrdD2.frm hf6 (by omega) (fun k hk => by have := Hd2.out k hk; omega)
        refine hK.out _ _ (trivial) (fun hHeld => ?_)
        clear hK K
        refine wpAnyH_ready (rs := [4, 6]) (by kernel_rfl) (by simp) ?_
        refine AllReadyH.cons rfl (fun K hK => ?_) ?_
        · go_simp
          refine hK.out _ _ (trivial) (fun hHeld => ?_)
          clear hK K
          refine wpAnyH_ready (rs := [6]) (by kernel_rfl) (by simp) ?_
          refine AllReadyH.cons rfl (fun K hK => ?_) AllReadyH.nil
          go_simp
          refine (rest_any g2 d2 r _ hrs6 hr100).mono ?_
          rintro e w7 ⟨A7, c7, rfl, hown7, hrd7, hf7⟩
          have hb7 := below_frm hb6 hf7 hb6.size (fun k hk => by omega)
          have hcv7 := conv_rds (P := Try.prog) w7 22 9 5 Try.underlying22 Try.underlying5 Try.underlying9 A7 _ c7 r (Seg.of_own hown7).rds
          have hcv67 := conv_rds (P := Try.prog) w7 22 9 5 Try.underlying22 Try.underlying5 Try.underlying9 A6 _ c6 r (Seg.of_own (own_frm hown6 hf7 (fun k hk => by have := (hown6.lt k hk).1; have hz : wr.drew.heap.size = wr.heap.size := rfl; omega))).rds
          refine hK.out _ _ (trivial) (fun hHeld => ?_)
          clear hK K
          refine wpAnyH_ready (rs := [7]) (by kernel_rfl) (by simp) ?_
          refine AllReadyH.cons rfl (fun K hK => ?_) AllReadyH.nil
          go_simp
          refine hK.out _ _ (trivial) (fun hHeld => ?_)
          clear hK K
          refine wpAnyH_take (i := 8) (v := ?v5) rfl (by kernel_rfl) (by kernel_rfl) (by kernel_rfl) (fun _ _ _ h => h) (Or.inl ⟨by rfl, ?hy5⟩) (by assumption) ?rest5
          case hy5 => (intro w hSw; (try dsimp only at hSw); go_simp; try with_reducible rfl)
          try simp only [Act.put, List.getElem_toArray, List.getElem_cons_zero, List.getElem_cons_succ, List.setIfInBounds_toArray, List.set_cons_zero, List.set_cons_succ]
          refine wpAnyH_take (i := 9) (v := ?v6) rfl (by kernel_rfl) (by kernel_rfl) (by kernel_rfl) (fun _ _ _ h => h) (Or.inl ⟨by rfl, ?hy6⟩) (by assumption) ?rest6
          case hy6 => (intro w hSw; (try dsimp only at hSw); go_simp; try with_reducible rfl)
          try simp only [Act.put, List.getElem_toArray, List.getElem_cons_zero, List.getElem_cons_succ, List.setIfInBounds_toArray, List.set_cons_zero, List.set_cons_succ]
          refine wpAnyH_take (i := 10) (v := ?v7) rfl (by kernel_rfl) (by kernel_rfl) (by kernel_rfl) (fun _ _ _ h => h) (Or.inl ⟨by rfl, ?hy7⟩) (by assumption) ?rest7
          case hy7 => (intro w hSw; (try dsimp only at hSw); go_simp; try with_reducible rfl)
          try simp only [Act.put, List.getElem_toArray, List.getElem_cons_zero, List.getElem_cons_succ, List.setIfInBounds_toArray, List.set_cons_zero, List.set_cons_succ]
          refine wpAnyH_done (by kernel_rfl) ?_ _
          go_wp2
          go_ret
          exact ⟨rfl, hb7⟩
        refine AllReadyH.cons rfl (fun K hK => ?_) AllReadyH.nil
        go_simp
        refine (rest_any g2 d2 r _ hrs6 hr100).mono ?_
        rintro e w7 ⟨A7, c7, rfl, hown7, hrd7, hf7⟩
        have hb7 := below_frm hb6 hf7 hb6.size (fun k hk => by omega)
        have hcv7 := conv_rds (P := Try.prog) w7 22 9 5 Try.underlying22 Try.underlying5 Try.underlying9 A7 _ c7 r (Seg.of_own hown7).rds
        have hcv67 := conv_rds (P := Try.prog) w7 22 9 5 Try.underlying22 Try.underlying5 Try.underlying9 A6 _ c6 r (Seg.of_own (own_frm hown6 hf7 (fun k hk => by have := (hown6.lt k hk).1; have hz : wr.drew.heap.size = wr.heap.size := rfl; omega))).rds
        refine hK.out _ _ (trivial) (fun hHeld => ?_)
        clear hK K
        refine wpAnyH_ready (rs := [4, 7]) (by kernel_rfl) (by simp) ?_
        refine AllReadyH.cons rfl (fun K hK => ?_) ?_
        · go_simp
          refine hK.out _ _ (trivial) (fun hHeld => ?_)
          clear hK K
          refine wpAnyH_ready (rs := [7]) (by kernel_rfl) (by simp) ?_
          refine AllReadyH.cons rfl (fun K hK => ?_) AllReadyH.nil
          go_simp
          refine hK.out _ _ (trivial) (fun hHeld => ?_)
          clear hK K
          refine wpAnyH_take (i := 8) (v := ?v8) rfl (by kernel_rfl) (by kernel_rfl) (by kernel_rfl) (fun _ _ _ h => h) (Or.inl ⟨by rfl, ?hy8⟩) (by assumption) ?rest8
          case hy8 => (intro w hSw; (try dsimp only at hSw); go_simp; try with_reducible rfl)
          try simp only [Act.put, List.getElem_toArray, List.getElem_cons_zero, List.getElem_cons_succ, List.setIfInBounds_toArray, List.set_cons_zero, List.set_cons_succ]
          refine wpAnyH_take (i := 9) (v := ?v9) rfl (by kernel_rfl) (by kernel_rfl) (by kernel_rfl) (fun _ _ _ h => h) (Or.inl ⟨by rfl, ?hy9⟩) (by assumption) ?rest9
          case hy9 => (intro w hSw; (try dsimp only at hSw); go_simp; try with_reducible rfl)
          try simp only [Act.put, List.getElem_toArray, List.getElem_cons_zero, List.getElem_cons_succ, List.setIfInBounds_toArray, List.set_cons_zero, List.set_cons_succ]
          refine wpAnyH_take (i := 10) (v := ?v10) rfl (by kernel_rfl) (by kernel_rfl) (by kernel_rfl) (fun _ _ _ h => h) (Or.inl ⟨by rfl, ?hy10⟩) (by assumption) ?rest10
          case hy10 => (intro w hSw; (try dsimp only at hSw); go_simp; try with_reducible rfl)
          try simp only [Act.put, List.getElem_toArray, List.getElem_cons_zero, List.getElem_cons_succ, List.setIfInBounds_toArray, List.set_cons_zero, List.set_cons_succ]
          refine wpAnyH_done (by kernel_rfl) ?_ _
          go_wp2
          go_ret
          exact ⟨rfl, hb7⟩
        refine AllReadyH.cons rfl (fun K hK => ?_) AllReadyH.nil
        go_simp
        refine hK.out _ _ (trivial) (fun hHeld => ?_)
        clear hK K
        refine wpAnyH_ready (rs := [4]) (by kernel_rfl) (by simp) ?_
        refine AllReadyH.cons rfl (fun K hK => ?_) AllReadyH.nil
        go_simp
        refine hK.out _ _ (trivial) (fun hHeld => ?_)
        clear hK K
        refine wpAnyH_take (i := 8) (v := ?v11) rfl (by kernel_rfl) (by kernel_rfl) (by kernel_rfl) (fun _ _ _ h => h) (Or.inl ⟨by rfl, ?hy11⟩) (by assumption) ?rest11
        case hy11 => (intro w hSw; (try dsimp only at hSw); go_simp; try with_reducible rfl)
        try simp only [Act.put, List.getElem_toArray, List.getElem_cons_zero, List.getElem_cons_succ, List.setIfInBounds_toArray, List.set_cons_zero, List.set_cons_succ]
        refine wpAnyH_take (i := 9) (v := ?v12) rfl (by kernel_rfl) (by kernel_rfl) (by kernel_rfl) (fun _ _ _ h => h) (Or.inl ⟨by rfl, ?hy12⟩) (by assumption) ?rest12
        case hy12 => (intro w hSw; (try dsimp only at hSw); go_simp; try with_reducible rfl)
        try simp only [Act.put, List.getElem_toArray, List.getElem_cons_zero, List.getElem_cons_succ, List.setIfInBounds_toArray, List.set_cons_zero, List.set_cons_succ]
        refine wpAnyH_take (i := 10) (v := ?v13) rfl (by kernel_rfl) (by kernel_rfl) (by kernel_rfl) (fun _ _ _ h => h) (Or.inl ⟨by rfl, ?hy13⟩) (by assumption) ?rest13
        case hy13 => (intro w hSw; (try dsimp only at hSw); go_simp; try with_reducible rfl)
        try simp only [Act.put, List.getElem_toArray, List.getElem_cons_zero, List.getElem_cons_succ, List.setIfInBounds_toArray, List.set_cons_zero, List.set_cons_succ]
        refine wpAnyH_done (by kernel_rfl) ?_ _
        go_wp2
        go_ret
        exact ⟨rfl, hb7⟩
    · have hq1 : decide ((k : Int) < (len1 : Int)) = false := by simp; omega
      generalize hr : xb.drop j = r at *
      have hrl : r.length ≤ 200 := by have := HLJ.out; omega
      have hrdD1 : Rd wr.drew g1 d1 r := hrd1
      have hrdD2 : Rd wr.drew g2 d2 r := hrd2
      have hlt1 := hrd1.lt
      have hlt2 := hrd2.lt
      have hr100 : r.length ≤ 100000 := by omega
      clear hr
      go_wp2_with fail
      refine wp_region_held_drew (S := fun _ => True) (by kernel_rfl) (trivial) ?_
      intro hHeld
      refine wpAnyH_take (i := 0) (v := ?v14) rfl (by kernel_rfl) (by kernel_rfl) (by kernel_rfl) (fun _ _ _ h => h) (Or.inl ⟨by rfl, ?hy14⟩) (by assumption) ?rest14
      case hy14 => (intro w hSw; (try dsimp only at hSw); go_simp; try with_reducible rfl)
      try simp only [Act.put, List.getElem_toArray, List.getElem_cons_zero, List.setIfInBounds_toArray, List.set_cons_zero, List.set_cons_succ]
      refine wpAnyH_take (i := 1) (v := ?v15) rfl (by kernel_rfl) (by kernel_rfl) (by kernel_rfl) (fun _ _ _ h => h) (Or.inl ⟨by rfl, ?hy15⟩) (by assumption) ?rest15
      case hy15 => (intro w hSw; (try dsimp only at hSw); go_simp; try with_reducible rfl)
      try simp only [Act.put, List.getElem_toArray, List.getElem_cons_zero, List.getElem_cons_succ, List.setIfInBounds_toArray, List.set_cons_zero, List.set_cons_succ]
      refine wpAnyH_take (i := 2) (v := ?v16) rfl (by kernel_rfl) (by kernel_rfl) (by kernel_rfl) (fun _ _ _ h => h) (Or.inl ⟨by rfl, ?hy16⟩) (by assumption) ?rest16
      case hy16 => (intro w hSw; (try dsimp only at hSw); go_simp; try with_reducible rfl)
      try simp only [Act.put, List.getElem_toArray, List.getElem_cons_zero, List.getElem_cons_succ, List.setIfInBounds_toArray, List.set_cons_zero, List.set_cons_succ]
      refine wpAnyH_take (i := 5) (v := ?v17) rfl (by kernel_rfl) (by kernel_rfl) (by kernel_rfl) (fun _ _ _ h => h) (Or.inl ⟨by rfl, ?hy17⟩) (by assumption) ?rest17
      case hy17 => (intro w hSw; (try dsimp only at hSw); go_simp; try with_reducible rfl)
      try simp only [Act.put, List.getElem_toArray, List.getElem_cons_zero, List.getElem_cons_succ, List.setIfInBounds_toArray, List.set_cons_zero, List.set_cons_succ]
      refine wpAnyH_ready (rs := [3]) (by kernel_rfl) (by simp) ?_
      refine AllReadyH.cons rfl (fun K hK => ?_) AllReadyH.nil
      go_simp
      refine (rest_any g1 d1 r _ hrdD1 hr100).mono ?_
      rintro e w6 ⟨A6, c6, rfl, hown6, hrd6, hf6⟩
      have hb6 := below_frm hbj.drew hf6 hbj.size (fun k hk => by omega)
      have hcv6 := conv_rds (P := Try.prog) w6 22 9 5 Try.underlying22 Try.underlying5 Try.underlying9 A6 _ c6 r (Seg.of_own hown6).rds
      have hrs6 : Rd w6 g2 d2 r := hrdD2.frm hf6 (by omega) (fun k hk => by have := Hd2.out k hk; omega)
      refine hK.out _ _ (trivial) (fun hHeld => ?_)
      clear hK K
      refine wpAnyH_ready (rs := [4, 6]) (by kernel_rfl) (by simp) ?_
      refine AllReadyH.cons rfl (fun K hK => ?_) ?_
      · go_simp
        refine hK.out _ _ (trivial) (fun hHeld => ?_)
        clear hK K
        refine wpAnyH_ready (rs := [6]) (by kernel_rfl) (by simp) ?_
        refine AllReadyH.cons rfl (fun K hK => ?_) AllReadyH.nil
        go_simp
        refine (rest_any g2 d2 r _ hrs6 hr100).mono ?_
        rintro e w7 ⟨A7, c7, rfl, hown7, hrd7, hf7⟩
        have hb7 := below_frm hb6 hf7 hb6.size (fun k hk => by omega)
        have hcv7 := conv_rds (P := Try.prog) w7 22 9 5 Try.underlying22 Try.underlying5 Try.underlying9 A7 _ c7 r (Seg.of_own hown7).rds
        have hcv67 := conv_rds (P := Try.prog) w7 22 9 5 Try.underlying22 Try.underlying5 Try.underlying9 A6 _ c6 r (Seg.of_own (own_frm hown6 hf7 (fun k hk => by have := (hown6.lt k hk).1; have hz : wr.drew.heap.size = wr.heap.size := rfl; omega))).rds
        refine hK.out _ _ (trivial) (fun hHeld => ?_)
        clear hK K
        refine wpAnyH_ready (rs := [7]) (by kernel_rfl) (by simp) ?_
        refine AllReadyH.cons rfl (fun K hK => ?_) AllReadyH.nil
        go_simp
        refine hK.out _ _ (trivial) (fun hHeld => ?_)
        clear hK K
        refine wpAnyH_take (i := 8) (v := ?v18) rfl (by kernel_rfl) (by kernel_rfl) (by kernel_rfl) (fun _ _ _ h => h) (Or.inl ⟨by rfl, ?hy18⟩) (by assumption) ?rest18
        case hy18 => (intro w hSw; (try dsimp only at hSw); go_simp; try with_reducible rfl)
        try simp only [Act.put, List.getElem_toArray, List.getElem_cons_zero, List.getElem_cons_succ, List.setIfInBounds_toArray, List.set_cons_zero, List.set_cons_succ]
        refine wpAnyH_take (i := 9) (v := ?v19) rfl (by kernel_rfl) (by kernel_rfl) (by kernel_rfl) (fun _ _ _ h => h) (Or.inl ⟨by rfl, ?hy19⟩) (by assumption) ?rest19
        case hy19 => (intro w hSw; (try dsimp only at hSw); go_simp; try with_reducible rfl)
        try simp only [Act.put, List.getElem_toArray, List.getElem_cons_zero, List.getElem_cons_succ, List.setIfInBounds_toArray, List.set_cons_zero, List.set_cons_succ]
        refine wpAnyH_take (i := 10) (v := ?v20) rfl (by kernel_rfl) (by kernel_rfl) (by kernel_rfl) (fun _ _ _ h => h) (Or.inl ⟨by rfl, ?hy20⟩) (by assumption) ?rest20
        case hy20 => (intro w hSw; (try dsimp only at hSw); go_simp; try with_reducible rfl)
        try simp only [Act.put, List.getElem_toArray, List.getElem_cons_zero, List.getElem_cons_succ, List.setIfInBounds_toArray, List.set_cons_zero, List.set_cons_succ]
        refine wpAnyH_done (by kernel_rfl) ?_ _
        go_wp2
        go_ret
        exact ⟨rfl, hb7⟩
      refine AllReadyH.cons rfl (fun K hK => ?_) AllReadyH.nil
      go_simp
      refine (rest_any g2 d2 r _ hrs6 hr100).mono ?_
      rintro e w7 ⟨A7, c7, rfl, hown7, hrd7, hf7⟩
      have hb7 := below_frm hb6 hf7 hb6.size (fun k hk => by omega)
      have hcv7 := conv_rds (P := Try.prog) w7 22 9 5 Try.underlying22 Try.underlying5 Try.underlying9 A7 _ c7 r (Seg.of_own hown7).rds
      have hcv67 := conv_rds (P := Try.prog) w7 22 9 5 Try.underlying22 Try.underlying5 Try.underlying9 A6 _ c6 r (Seg.of_own (own_frm hown6 hf7 (fun k hk => by have := (hown6.lt k hk).1; have hz : wr.drew.heap.size = wr.heap.size := rfl; omega))).rds
      refine hK.out _ _ (trivial) (fun hHeld => ?_)
      clear hK K
      refine wpAnyH_ready (rs := [4, 7]) (by kernel_rfl) (by simp) ?_
      refine AllReadyH.cons rfl (fun K hK => ?_) ?_
      · go_simp
        refine hK.out _ _ (trivial) (fun hHeld => ?_)
        clear hK K
        refine wpAnyH_ready (rs := [7]) (by kernel_rfl) (by simp) ?_
        refine AllReadyH.cons rfl (fun K hK => ?_) AllReadyH.nil
        go_simp
        refine hK.out _ _ (trivial) (fun hHeld => ?_)
        clear hK K
        refine wpAnyH_take (i := 8) (v := ?v21) rfl (by kernel_rfl) (by kernel_rfl) (by kernel_rfl) (fun _ _ _ h => h) (Or.inl ⟨by rfl, ?hy21⟩) (by assumption) ?rest21
        case hy21 => (intro w hSw; (try dsimp only at hSw); go_simp; try with_reducible rfl)
        try simp only [Act.put, List.getElem_toArray, List.getElem_cons_zero, List.getElem_cons_succ, List.setIfInBounds_toArray, List.set_cons_zero, List.set_cons_succ]
        refine wpAnyH_take (i := 9) (v := ?v22) rfl (by kernel_rfl) (by kernel_rfl) (by kernel_rfl) (fun _ _ _ h => h) (Or.inl ⟨by rfl, ?hy22⟩) (by assumption) ?rest22
        case hy22 => (intro w hSw; (try dsimp only at hSw); go_simp; try with_reducible rfl)
        try simp only [Act.put, List.getElem_toArray, List.getElem_cons_zero, List.getElem_cons_succ, List.setIfInBounds_toArray, List.set_cons_zero, List.set_cons_succ]
        refine wpAnyH_take (i := 10) (v := ?v23) rfl (by kernel_rfl) (by kernel_rfl) (by kernel_rfl) (fun _ _ _ h => h) (Or.inl ⟨by rfl, ?hy23⟩) (by assumption) ?rest23
        case hy23 => (intro w hSw; (try dsimp only at hSw); go_simp; try with_reducible rfl)
        try simp only [Act.put, List.getElem_toArray, List.getElem_cons_zero, List.getElem_cons_succ, List.setIfInBounds_toArray, List.set_cons_zero, List.set_cons_succ]
        refine wpAnyH_done (by kernel_rfl) ?_ _
        go_wp2
        go_ret
        exact ⟨rfl, hb7⟩
      refine AllReadyH.cons rfl (fun K hK => ?_) AllReadyH.nil
      go_simp
      refine hK.out _ _ (trivial) (fun hHeld => ?_)
      clear hK K
      refine wpAnyH_ready (rs := [4]) (by kernel_rfl) (by simp) ?_
      refine AllReadyH.cons rfl (fun K hK => ?_) AllReadyH.nil
      go_simp
      refine hK.out _ _ (trivial) (fun hHeld => ?_)
      clear hK K
      refine wpAnyH_take (i := 8) (v := ?v24) rfl (by kernel_rfl) (by kernel_rfl) (by kernel_rfl) (fun _ _ _ h => h) (Or.inl ⟨by rfl, ?hy24⟩) (by assumption) ?rest24
      case hy24 => (intro w hSw; (try dsimp only at hSw); go_simp; try with_reducible rfl)
      try simp only [Act.put, List.getElem_toArray, List.getElem_cons_zero, List.getElem_cons_succ, List.setIfInBounds_toArray, List.set_cons_zero, List.set_cons_succ]
      refine wpAnyH_take (i := 9) (v := ?v25) rfl (by kernel_rfl) (by kernel_rfl) (by kernel_rfl) (fun _ _ _ h => h) (Or.inl ⟨by rfl, ?hy25⟩) (by assumption) ?rest25
      case hy25 => (intro w hSw; (try dsimp only at hSw); go_simp; try with_reducible rfl)
      try simp only [Act.put, List.getElem_toArray, List.getElem_cons_zero, List.getElem_cons_succ, List.setIfInBounds_toArray, List.set_cons_zero, List.set_cons_succ]
      refine wpAnyH_take (i := 10) (v := ?v26) rfl (by kernel_rfl) (by kernel_rfl) (by kernel_rfl) (fun _ _ _ h => h) (Or.inl ⟨by rfl, ?hy26⟩) (by assumption) ?rest26
      case hy26 => (intro w hSw; (try dsimp only at hSw); go_simp; try with_reducible rfl)
      try simp only [Act.put, List.getElem_toArray, List.getElem_cons_zero, List.getElem_cons_succ, List.setIfInBounds_toArray, List.set_cons_zero, List.set_cons_succ]
      refine wpAnyH_done (by kernel_rfl) ?_ _
      go_wp2
      go_ret
      exact ⟨rfl, hb7⟩

set_option maxHeartbeats 8000000 in
set_option maxRecDepth 100000 in
theorem stays_walk_none (a0 : Option Addr) (len0 cap0 : Nat) (lb : List UInt8) (len1 cap1 : Nat) (ls : List UInt8) (w : World) (h0 : Rds w a0 len0 (cellsB lb)) (hc0 : len0 ≤ cap0) (hm0 : cap0 ≤ 9223372036854775807) (h1 : Rds w none len1 (cellsB ls)) (hc1 : len1 ≤ cap1) (hm1 : cap1 ≤ 9223372036854775807) :
    Calls Try.prog 9 #[.slice a0 len0 cap0, .slice none len1 cap1] w fun e w' => e = .returned (.bool true) ∧ Below w.heap.size w w' := by
  obtain ⟨m, HM, hm1, hm2⟩ := nat_min len0 200
  have HR := hide (h0.take m hm1)
  rw [cellsB_take] at HR
  have HL : Hid ((lb.take m).length = m) := by have := HR.out.1; rwa [cellsB_length] at this
  generalize lb.take m = xb at *
  have HS := hide h1
  clear h1
  go_enter Try.func9, Try.ntmps9
  go_wp2_with fail
  refine (shown_any _).mono ?_
  rintro e w1 ⟨rfl, hb1⟩
  go_wp2_with (first | (refine wpl_min rfl (.tmp 22) (.const (.int .i64 200)) _ _ rfl _ (len0 : Int) 200 (m : Int) rfl rfl HM.out ?_) | fail)
  refine (read_any2 a0 m cap0 xb _ (HR.out.below hb1) (by omega)).mono ?_
  rintro e w2 ⟨g1, d1, rfl, hrd, hb2, hg, hd⟩
  have hb2' := hb1.trans (hb2.mono hb1.size)
  have hg1 : w.heap.size ≤ g1 := Nat.le_trans hb1.size hg
  have Hd1 : Hid (∀ k, d1 = some k → k < g1) := fun k hk => (hd k hk).2
  have hgl1 := hrd.lt
  clear hd hb2 hg hb1
  go_wp2_with fail
  refine (read_any2 a0 m cap0 xb _ (HR.out.below hb2') (by omega)).mono ?_
  rintro e w3 ⟨g2, d2, rfl, hrdb, hb3, hg, hd⟩
  have hb3' := hb2'.trans (hb3.mono hb2'.size)
  have hrda : Rd w3 g1 d1 xb := hrd.frm (S := fun _ => False) (Frm.of_below hb3) (fun h => h) (fun _ _ h => h)
  have hg2 : g1 < g2 := by omega
  have Hd2 : Hid (∀ k, d2 = some k → g1 < k ∧ k < g2) := fun k hk => ⟨by have := (hd k hk).1; omega, (hd k hk).2⟩
  clear hd hb3 hg hb2' hrd hgl1
  go_wp2_with fail
  go_loopw [8] (fun i wr => ∃ k j : Nat, k ≤ len1 ∧ k ≤ 40 ∧ j ≤ m ∧ i = .int .i64 k ∧ Rd wr g1 d1 (xb.drop j) ∧ Rd wr g2 d2 (xb.drop j) ∧ Below w.heap.size w wr) (fun i _ => 40 - (intOf i).toNat)
  case atStart => exact ⟨0, 0, by omega, by omega, by omega, rfl, hrda, hrdb, hb3'⟩
  case round =>
    obtain ⟨k, j, hk1, hk2, hj, rfl, hrd1, hrd2, hbj⟩ := hrel
    have HLJ : Hid ((xb.drop j).length = m - j) := by rw [List.length_drop, HL.out]; rfl
    have hl0 : len1 = 0 := by
      rcases Nat.eq_zero_or_pos len1 with h | h
      · exact h
      · obtain ⟨a, h, _⟩ := HS.out.2 h; cases h
    have HL0 := hide hl0
    clear hl0
    by_cases hlt : k < len1
    · have := HL0.out; omega
    · have hq1 : decide ((k : Int) < (len1 : Int)) = false := by simp; omega
      generalize hr : xb.drop j = r at *
      have hrl : r.length ≤ 200 := by have := HLJ.out; omega
      have hrdD1 : Rd wr.drew g1 d1 r := hrd1
      have hrdD2 : Rd wr.drew g2 d2 r := hrd2
      have hlt1 := hrd1.lt
      have hlt2 := hrd2.lt
      have hr100 : r.length ≤ 100000 := by omega
      clear hr
      go_wp2_with fail
      refine wp_region_held_drew (S := fun _ => True) (by kernel_rfl) (trivial) ?_
      intro hHeld
      refine wpAnyH_take (i := 0) (v := ?v27) rfl (by kernel_rfl) (by kernel_rfl) (by kernel_rfl) (fun _ _ _ h => h) (Or.inl ⟨by rfl, ?hy27⟩) (by assumption) ?rest27
      case hy27 => (intro w hSw; (try dsimp only at hSw); go_simp; try with_reducible rfl)
      try simp only [Act.put, List.getElem_toArray, List.getElem_cons_zero, List.setIfInBounds_toArray, List.set_cons_zero, List.set_cons_succ]
      refine wpAnyH_take (i := 1) (v := ?v28) rfl (by kernel_rfl) (by kernel_rfl) (by kernel_rfl) (fun _ _ _ h => h) (Or.inl ⟨by rfl, ?hy28⟩) (by assumption) ?rest28
      case hy28 => (intro w hSw; (try dsimp only at hSw); go_simp; try with_reducible rfl)
      try simp only [Act.put, List.getElem_toArray, List.getElem_cons_zero, List.getElem_cons_succ, List.setIfInBounds_toArray, List.set_cons_zero, List.set_cons_succ]
      refine wpAnyH_take (i := 2) (v := ?v29) rfl (by kernel_rfl) (by kernel_rfl) (by kernel_rfl) (fun _ _ _ h => h) (Or.inl ⟨by rfl, ?hy29⟩) (by assumption) ?rest29
      case hy29 => (intro w hSw; (try dsimp only at hSw); go_simp; try with_reducible rfl)
      try simp only [Act.put, List.getElem_toArray, List.getElem_cons_zero, List.getElem_cons_succ, List.setIfInBounds_toArray, List.set_cons_zero, List.set_cons_succ]
      refine wpAnyH_take (i := 5) (v := ?v30) rfl (by kernel_rfl) (by kernel_rfl) (by kernel_rfl) (fun _ _ _ h => h) (Or.inl ⟨by rfl, ?hy30⟩) (by assumption) ?rest30
      case hy30 => (intro w hSw; (try dsimp only at hSw); go_simp; try with_reducible rfl)
      try simp only [Act.put, List.getElem_toArray, List.getElem_cons_zero, List.getElem_cons_succ, List.setIfInBounds_toArray, List.set_cons_zero, List.set_cons_succ]
      refine wpAnyH_ready (rs := [3]) (by kernel_rfl) (by simp) ?_
      refine AllReadyH.cons rfl (fun K hK => ?_) AllReadyH.nil
      go_simp
      refine (rest_any g1 d1 r _ hrdD1 hr100).mono ?_
      rintro e w6 ⟨A6, c6, rfl, hown6, hrd6, hf6⟩
      have hb6 := below_frm hbj.drew hf6 hbj.size (fun k hk => by omega)
      have hcv6 := conv_rds (P := Try.prog) w6 22 9 5 Try.underlying22 Try.underlying5 Try.underlying9 A6 _ c6 r (Seg.of_own hown6).rds
      have hrs6 : Rd w6 g2 d2 r := hrdD2.frm hf6 (by omega) (fun k hk => by have := Hd2.out k hk; omega)
      refine hK.out _ _ (trivial) (fun hHeld => ?_)
      clear hK K
      refine wpAnyH_ready (rs := [4, 6]) (by kernel_rfl) (by simp) ?_
      refine AllReadyH.cons rfl (fun K hK => ?_) ?_
      · go_simp
        refine hK.out _ _ (trivial) (fun hHeld => ?_)
        clear hK K
        refine wpAnyH_ready (rs := [6]) (by kernel_rfl) (by simp) ?_
        refine AllReadyH.cons rfl (fun K hK => ?_) AllReadyH.nil
        go_simp
        refine (rest_any g2 d2 r _ hrs6 hr100).mono ?_
        rintro e w7 ⟨A7, c7, rfl, hown7, hrd7, hf7⟩
        have hb7 := below_frm hb6 hf7 hb6.size (fun k hk => by omega)
        have hcv7 := conv_rds (P := Try.prog) w7 22 9 5 Try.underlying22 Try.underlying5 Try.underlying9 A7 _ c7 r (Seg.of_own hown7).rds
        have hcv67 := conv_rds (P := Try.prog) w7 22 9 5 Try.underlying22 Try.underlying5 Try.underlying9 A6 _ c6 r (Seg.of_own (own_frm hown6 hf7 (fun k hk => by have := (hown6.lt k hk).1; have hz : wr.drew.heap.size = wr.heap.size := rfl; omega))).rds
        refine hK.out _ _ (trivial) (fun hHeld => ?_)
        clear hK K
        refine wpAnyH_ready (rs := [7]) (by kernel_rfl) (by simp) ?_
        refine AllReadyH.cons rfl (fun K hK => ?_) AllReadyH.nil
        go_simp
        refine hK.out _ _ (trivial) (fun hHeld => ?_)
        clear hK K
        refine wpAnyH_take (i := 8) (v := ?v31) rfl (by kernel_rfl) (by kernel_rfl) (by kernel_rfl) (fun _ _ _ h => h) (Or.inl ⟨by rfl, ?hy31⟩) (by assumption) ?rest31
        case hy31 => (intro w hSw; (try dsimp only at hSw); go_simp; try with_reducible rfl)
        try simp only [Act.put, List.getElem_toArray, List.getElem_cons_zero, List.getElem_cons_succ, List.setIfInBounds_toArray, List.set_cons_zero, List.set_cons_succ]
        refine wpAnyH_take (i := 9) (v := ?v32) rfl (by kernel_rfl) (by kernel_rfl) (by kernel_rfl) (fun _ _ _ h => h) (Or.inl ⟨by rfl, ?hy32⟩) (by assumption) ?rest32
        case hy32 => (intro w hSw; (try dsimp only at hSw); go_simp; try with_reducible rfl)
        try simp only [Act.put, List.getElem_toArray, List.getElem_cons_zero, List.getElem_cons_succ, List.setIfInBounds_toArray, List.set_cons_zero, List.set_cons_succ]
        refine wpAnyH_take (i := 10) (v := ?v33) rfl (by kernel_rfl) (by kernel_rfl) (by kernel_rfl) (fun _ _ _ h => h) (Or.inl ⟨by rfl, ?hy33⟩) (by assumption) ?rest33
        case hy33 => (intro w hSw; (try dsimp only at hSw); go_simp; try with_reducible rfl)
        try simp only [Act.put, List.getElem_toArray, List.getElem_cons_zero, List.getElem_cons_succ, List.setIfInBounds_toArray, List.set_cons_zero, List.set_cons_succ]
        refine wpAnyH_done (by kernel_rfl) ?_ _
        go_wp2
        go_ret
        exact ⟨rfl, hb7⟩
      refine AllReadyH.cons rfl (fun K hK => ?_) AllReadyH.nil
      go_simp
      refine (rest_any g2 d2 r _ hrs6 hr100).mono ?_
      rintro e w7 ⟨A7, c7, rfl, hown7, hrd7, hf7⟩
      have hb7 := below_frm hb6 hf7 hb6.size (fun k hk => by omega)
      have hcv7 := conv_rds (P := Try.prog) w7 22 9 5 Try.underlying22 Try.underlying5 Try.underlying9 A7 _ c7 r (Seg.of_own hown7).rds
      have hcv67 := conv_rds (P := Try.prog) w7 22 9 5 Try.underlying22 Try.underlying5 Try.underlying9 A6 _ c6 r (Seg.of_own (own_frm hown6 hf7 (fun k hk => by have := (hown6.lt k hk).1; have hz : wr.drew.heap.size = wr.heap.size := rfl; omega))).rds
      refine hK.out _ _ (trivial) (fun hHeld => ?_)
      clear hK K
      refine wpAnyH_ready (rs := [4, 7]) (by kernel_rfl) (by simp) ?_
      refine AllReadyH.cons rfl (fun K hK => ?_) ?_
      · go_simp
        refine hK.out _ _ (trivial) (fun hHeld => ?_)
        clear hK K
        refine wpAnyH_ready (rs := [7]) (by kernel_rfl) (by simp) ?_
        refine AllReadyH.cons rfl (fun K hK => ?_) AllReadyH.nil
        go_simp
        refine hK.out _ _ (trivial) (fun hHeld => ?_)
        clear hK K
        refine wpAnyH_take (i := 8) (v := ?v34) rfl (by kernel_rfl) (by kernel_rfl) (by kernel_rfl) (fun _ _ _ h => h) (Or.inl ⟨by rfl, ?hy34⟩) (by assumption) ?rest34
        case hy34 => (intro w hSw; (try dsimp only at hSw); go_simp; try with_reducible rfl)
        try simp only [Act.put, List.getElem_toArray, List.getElem_cons_zero, List.getElem_cons_succ, List.setIfInBounds_toArray, List.set_cons_zero, List.set_cons_succ]
        refine wpAnyH_take (i := 9) (v := ?v35) rfl (by kernel_rfl) (by kernel_rfl) (by kernel_rfl) (fun _ _ _ h => h) (Or.inl ⟨by rfl, ?hy35⟩) (by assumption) ?rest35
        case hy35 => (intro w hSw; (try dsimp only at hSw); go_simp; try with_reducible rfl)
        try simp only [Act.put, List.getElem_toArray, List.getElem_cons_zero, List.getElem_cons_succ, List.setIfInBounds_toArray, List.set_cons_zero, List.set_cons_succ]
        refine wpAnyH_take (i := 10) (v := ?v36) rfl (by kernel_rfl) (by kernel_rfl) (by kernel_rfl) (fun _ _ _ h => h) (Or.inl ⟨by rfl, ?hy36⟩) (by assumption) ?rest36
        case hy36 => (intro w hSw; (try dsimp only at hSw); go_simp; try with_reducible rfl)
        try simp only [Act.put, List.getElem_toArray, List.getElem_cons_zero, List.getElem_cons_succ, List.setIfInBounds_toArray, List.set_cons_zero, List.set_cons_succ]
        refine wpAnyH_done (by kernel_rfl) ?_ _
        go_wp2
        go_ret
        exact ⟨rfl, hb7⟩
      refine AllReadyH.cons rfl (fun K hK => ?_) AllReadyH.nil
      go_simp
      refine hK.out _ _ (trivial) (fun hHeld => ?_)
      clear hK K
      refine wpAnyH_ready (rs := [4]) (by kernel_rfl) (by simp) ?_
      refine AllReadyH.cons rfl (fun K hK => ?_) AllReadyH.nil
      go_simp
      refine hK.out _ _ (trivial) (fun hHeld => ?_)
      clear hK K
      refine wpAnyH_take (i := 8) (v := ?v37) rfl (by kernel_rfl) (by kernel_rfl) (by kernel_rfl) (fun _ _ _ h => h) (Or.inl ⟨by rfl, ?hy37⟩) (by assumption) ?rest37
      case hy37 => (intro w hSw; (try dsimp only at hSw); go_simp; try with_reducible rfl)
      try simp only [Act.put, List.getElem_toArray, List.getElem_cons_zero, List.getElem_cons_succ, List.setIfInBounds_toArray, List.set_cons_zero, List.set_cons_succ]
      refine wpAnyH_take (i := 9) (v := ?v38) rfl (by kernel_rfl) (by kernel_rfl) (by kernel_rfl) (fun _ _ _ h => h) (Or.inl ⟨by rfl, ?hy38⟩) (by assumption) ?rest38
      case hy38 => (intro w hSw; (try dsimp only at hSw); go_simp; try with_reducible rfl)
      try simp only [Act.put, List.getElem_toArray, List.getElem_cons_zero, List.getElem_cons_succ, List.setIfInBounds_toArray, List.set_cons_zero, List.set_cons_succ]
      refine wpAnyH_take (i := 10) (v := ?v39) rfl (by kernel_rfl) (by kernel_rfl) (by kernel_rfl) (fun _ _ _ h => h) (Or.inl ⟨by rfl, ?hy39⟩) (by assumption) ?rest39
      case hy39 => (intro w hSw; (try dsimp only at hSw); go_simp; try with_reducible rfl)
      try simp only [Act.put, List.getElem_toArray, List.getElem_cons_zero, List.getElem_cons_succ, List.setIfInBounds_toArray, List.set_cons_zero, List.set_cons_succ]
      refine wpAnyH_done (by kernel_rfl) ?_ _
      go_wp2
      go_ret
      exact ⟨rfl, hb7⟩

theorem stays_walk (a0 : Option Addr) (len0 cap0 : Nat) (lb : List UInt8) (a1 : Option Addr) (len1 cap1 : Nat) (ls : List UInt8) (w : World) (h0 : Rds w a0 len0 (cellsB lb)) (hc0 : len0 ≤ cap0) (hm0 : cap0 ≤ 9223372036854775807) (h1 : Rds w a1 len1 (cellsB ls)) (hc1 : len1 ≤ cap1) (hm1 : cap1 ≤ 9223372036854775807) :
    Calls Try.prog 9 #[.slice a0 len0 cap0, .slice a1 len1 cap1] w fun e w' => e = .returned (.bool true) ∧ Below w.heap.size w w' := by
  rcases a1 with _ | ad
  · exact stays_walk_none a0 len0 cap0 lb len1 cap1 ls w h0 hc0 hm0 h1 hc1 hm1
  · exact stays_walk_some a0 len0 cap0 lb ad len1 cap1 ls w h0 hc0 hm0 h1 hc1 hm1
end Go.Proofs.Ytiamopkdapdpaaa
