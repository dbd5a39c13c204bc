/-
  OctetsParts: the walk.
-/
import Derived.Test.YtiamopkdapdpaaaZerosWalk
import Derived.Deep.RegionHeld3
namespace Go.Proofs.Ytiamopkdapdpaaa
set_option linter.unusedVariables false
open Go.RowKit

theorem nil100 : ([] : List UInt8).length ≤ 100000 := by decide

theorem txt_append (a b : List UInt8) : ((⟨a.toArray⟩ : ByteArray) ++ ⟨b.toArray⟩) = ⟨(a ++ b).toArray⟩ := by
  apply ByteArray.ext
  simp

set_option maxHeartbeats 4000000 in
set_option maxRecDepth 100000 in
theorem parts_walk_some (a0 : Option Addr) (len0 cap0 : Nat) (lb : List UInt8) (ad : Addr) (len1 cap1 : Nat) (ls : List UInt8) (w : World) (h0 : Rds w a0 len0 (cellsB lb)) (hc0 : len0 ≤ cap0) (hm0 : cap0 ≤ 9223372036854775807) (h1 : Rds w (some ad) len1 (cellsB ls)) (hc1 : len1 ≤ cap1) (hm1 : cap1 ≤ 9223372036854775807) :
    Calls Try.prog 6 #[.slice a0 len0 cap0, .slice (some ad) len1 cap1] w fun e w' => e = .returned (.bool true) ∧ Below w.heap.size w w' := by
  obtain ⟨m, HM, hm1, hm2⟩ := nat_min len0 200
  have HR := hide (h0.take m hm1)
  rw [cellsB_take] at HR
  have HL : Hid ((lb.take m).length = m) := by have := HR.out.1; rwa [cellsB_length] at this
  generalize lb.take m = xb at *
  have HS := hide h1
  clear h1
  go_enter Try.func6, Try.ntmps6
  go_wp2_with fail
  refine (shown_any _).mono ?_
  rintro e w1 ⟨rfl, hb1⟩
  go_wp2_with (first | (refine wpl_min rfl (.tmp 16) (.const (.int .i64 200)) _ _ rfl _ (len0 : Int) 200 (m : Int) rfl rfl HM.out ?_) | fail)
  refine (read_any a0 m cap0 xb _ (HR.out.below hb1) (by omega)).mono ?_
  rintro e w2 ⟨g, d, rfl, hrd, hb2, hg, hd⟩
  have hb2' := hb1.trans (hb2.mono hb1.size)
  have hg' : w.heap.size ≤ g := Nat.le_trans hb1.size hg
  clear hd hb2 hg hb1
  go_wp2_with fail
  go_loopw [7, 8] (fun s i wr => ∃ k j : Nat, k ≤ len1 ∧ k ≤ 40 ∧ j ≤ m ∧ i = .int .i64 k ∧ s = .string ⟨(xb.take j).toArray⟩ ∧ Rd wr g d (xb.drop j) ∧ Below w.heap.size w wr) (fun _ i _ => 40 - (intOf i).toNat)
  case atStart => exact ⟨0, 0, by omega, by omega, by omega, rfl, rfl, hrd, hb2'⟩
  case round =>
    obtain ⟨k, j, hk1, hk2, hj, rfl, rfl, hrdj, hbj⟩ := hrel
    have HLJ : Hid ((xb.drop j).length = m - j) := by rw [List.length_drop, HL.out]; rfl
    by_cases hlt : k < len1
    · by_cases hlt2 : k < 40
      · obtain ⟨ad', e1, hcell⟩ := (HS.out.below hbj).2 (by omega)
        injection e1 with e1
        subst e1
        have hck := hcell k (.int .u8 ((ls.getD k 0).toNat : Int)) (by rw [cellsB_get]; have h := HS.out.1; rw [cellsB_length] at h; rw [List.getElem?_eq_getElem (by omega)]; simp [List.getD, List.getElem?_eq_getElem (show k < ls.length by omega)])
        have hby := (ls.getD k 0).toNat_lt
        generalize (ls.getD k 0).toNat = y at *
        clear hcell
        obtain ⟨nn, hyn⟩ : ∃ nn : Nat, (y : Int) % 30 = (nn : Int) := ⟨y % 30, by omega⟩
        have hnn : nn < 30 := by omega
        generalize hr : xb.drop j = r at *
        have HRJ := hide hr
        clear hr
        have hrl : r.length ≤ 200 := by have := HLJ.out; omega
        go_wp2_with fail
        refine (left_any g d r _ hrdj (by omega)).mono ?_
        rintro e w4 ⟨rfl, rfl⟩
        by_cases hle : nn ≤ r.length
        · have hq3 : decide (nn ≤ r.length) = true := by simp; omega
          go_wp2_with fail
          refine (bytes_ok g d r nn _ hrdj (by omega) (by omega) (by omega)).mono ?_
          rintro e w5 ⟨A5, c5, rfl, hown5, hrd5, hf5⟩
          rw [Int.toNat_natCast] at hown5 hrd5 ⊢
          have hcv := conv_rds (P := Try.prog) w5 22 9 5 Try.underlying22 Try.underlying5 Try.underlying9 A5 _ c5 _ (Seg.of_own hown5).rds
          have hap : ((⟨(xb.take j).toArray⟩ : ByteArray) ++ ⟨(r.take nn).toArray⟩) = ⟨(xb.take (j + nn)).toArray⟩ := by
            rw [txt_append, ← HRJ.out, List.take_add]
          have HRD : Hid (r.drop nn = xb.drop (j + nn)) := by rw [← HRJ.out, List.drop_drop]; rfl
          have HQ : Hid ((xb.take (j + nn)).length = j + nn) := by rw [List.length_take, HL.out]; exact Nat.min_eq_left (by have := HLJ.out; omega)
          have HR2 : Hid ((r.drop nn).length = m - (j + nn)) := by rw [List.length_drop, HLJ.out]; unfold Hid; omega
          have hjn : j + nn ≤ m := by have := HLJ.out; omega
          generalize hq : xb.take (j + nn) = q at *
          have HQE := hide hq
          clear hq
          generalize hr2 : r.drop nn = r2 at *
          have HR2E := hide hr2
          clear hr2
          have hne : ((r2.length : Int) != (m : Int) - (q.length : Int)) = false := by rw [HR2.out, HQ.out]; simp; omega
          have hr2l : r2.length ≤ 200 := by have := HR2.out; omega
          have hql : q.length ≤ 200 := by have := HQ.out; omega
          go_wp2_with fail
          refine (left_any g d r2 _ hrd5 (by omega)).mono ?_
          rintro e w6 ⟨rfl, rfl⟩
          have hb5 := below_frm hbj hf5 hbj.size (fun k hk => by omega)
          go_wp2
          go_roundw
          case rel => exact ⟨k + 1, j + nn, by omega, by omega, hjn, by go_num, by rw [HQE.out], by rw [← HRD.out]; exact hrd5, hb5⟩
          case measure => simp [intOf]; omega
        · have hq3 : decide (nn ≤ r.length) = false := by simp; omega
          have HQ : Hid ((xb.take j).length = j) := by rw [List.length_take, HL.out]; exact Nat.min_eq_left hj
          generalize hq : xb.take j = q at *
          have HQE := hide hq
          clear hq
          have hap : ((⟨q.toArray⟩ : ByteArray) ++ ⟨#[]⟩) = ⟨q.toArray⟩ := by
            have := txt_append q []
            rw [List.append_nil] at this
            exact this
          have hne : ((r.length : Int) != (m : Int) - (q.length : Int)) = false := by rw [HLJ.out, HQ.out]; simp; omega
          have hql : q.length ≤ 200 := by have := HQ.out; omega
          go_wp2_with fail
          refine (bytes_short g d r nn _ hrdj (by omega) (by omega)).mono ?_
          rintro e w5 ⟨rfl, rfl⟩
          have hcv := conv_rds (P := Try.prog) wr 22 9 5 Try.underlying22 Try.underlying5 Try.underlying9 none 0 0 [] ⟨rfl, fun h => by omega⟩
          go_wp2_with fail
          refine (left_any g d r _ hrdj (by omega)).mono ?_
          rintro e w6 ⟨rfl, rfl⟩
          go_wp2
          go_roundw
          case rel => exact ⟨k + 1, j, by omega, by omega, hj, by go_num, by rw [HQE.out], by rw [HRJ.out]; exact hrdj, hbj⟩
          case measure => simp [intOf]; omega
      · have hq2 : decide ((k : Int) < 40) = false := by simp; omega
        have hq1 : decide ((k : Int) < (len1 : Int)) = true := by simp; omega
        generalize hr : xb.drop j = r at *
        have HRJ := hide hr
        clear hr
        have hrl : r.length ≤ 200 := by have := HLJ.out; omega
        have hcvb := conv_rds (P := Try.prog) wr.drew 22 9 5 Try.underlying22 Try.underlying5 Try.underlying9 a0 m cap0 xb (HR.out.below hbj.drew)
        have hap : ((⟨(xb.take j).toArray⟩ : ByteArray) ++ ⟨r.toArray⟩) = ⟨xb.toArray⟩ := by rw [txt_append, ← HRJ.out, List.take_append_drop]
        have hrdD : Rd wr.drew g d r := hrdj
        have hsz : ¬ 9223372036854775807 < min j xb.length + r.length := by omega
        have hr100 : r.length ≤ 100000 := by omega
        go_wp2_with fail
        refine wp_region_held_drew (S := fun W => Sem.run Try.prog (convert 22 9 (.slice a0 m cap0)) W = .ok (.string ⟨xb.toArray⟩) W) (by kernel_rfl) (hcvb) ?_
        intro hHeld
        refine wpAnyH_take (i := 0) (v := ?v1) rfl (by kernel_rfl) (by kernel_rfl) (by kernel_rfl) (fun _ _ _ h => h) (Or.inl ⟨by rfl, ?hy1⟩) (by assumption) ?rest1
        case hy1 => (intro w hSw; (try dsimp only at hSw); go_simp; try with_reducible rfl)
        try simp only [Act.put, List.getElem_toArray, List.getElem_cons_zero, List.setIfInBounds_toArray, List.set_cons_zero, List.set_cons_succ]
        refine wpAnyH_take (i := 1) (v := ?v2) rfl (by kernel_rfl) (by kernel_rfl) (by kernel_rfl) (fun _ _ _ h => h) (Or.inl ⟨by rfl, ?hy2⟩) (by assumption) ?rest2
        case hy2 => (intro w hSw; (try dsimp only at hSw); go_simp; try with_reducible rfl)
        try simp only [Act.put, List.getElem_toArray, List.getElem_cons_zero, List.getElem_cons_succ, List.setIfInBounds_toArray, List.set_cons_zero, List.set_cons_succ]
        refine wpAnyH_take (i := 2) (v := ?v3) rfl (by kernel_rfl) (by kernel_rfl) (by kernel_rfl) (fun _ _ _ h => h) (Or.inl ⟨by rfl, ?hy3⟩) (by assumption) ?rest3
        case hy3 => (intro w hSw; (try dsimp only at hSw); go_simp; try with_reducible rfl)
        try simp only [Act.put, List.getElem_toArray, List.getElem_cons_zero, List.getElem_cons_succ, List.setIfInBounds_toArray, List.set_cons_zero, List.set_cons_succ]
        refine wpAnyH_take (i := 3) (v := ?v4) rfl (by kernel_rfl) (by kernel_rfl) (by kernel_rfl) (fun _ _ _ h => h) (Or.inl ⟨by rfl, ?hy4⟩) (by assumption) ?rest4
        case hy4 => (intro w hSw; (try dsimp only at hSw); go_simp; try with_reducible rfl)
        try simp only [Act.put, List.getElem_toArray, List.getElem_cons_zero, List.getElem_cons_succ, List.setIfInBounds_toArray, List.set_cons_zero, List.set_cons_succ]
        refine wpAnyH_take (i := 7) (v := ?v5) rfl (by kernel_rfl) (by kernel_rfl) (by kernel_rfl) (fun _ _ _ h => h) (Or.inl ⟨by rfl, ?hy5⟩) (by assumption) ?rest5
        case hy5 => (intro w hSw; (try dsimp only at hSw); go_simp; try with_reducible rfl)
        try simp only [Act.put, List.getElem_toArray, List.getElem_cons_zero, List.getElem_cons_succ, List.setIfInBounds_toArray, List.set_cons_zero, List.set_cons_succ]
        refine wpAnyH_take (i := 8) (v := ?v6) rfl (by kernel_rfl) (by kernel_rfl) (by kernel_rfl) (fun _ _ _ h => h) (Or.inl ⟨by rfl, ?hy6⟩) (by assumption) ?rest6
        case hy6 => (intro w hSw; (try dsimp only at hSw); go_simp; try with_reducible rfl)
        try simp only [Act.put, List.getElem_toArray, List.getElem_cons_zero, List.getElem_cons_succ, List.setIfInBounds_toArray, List.set_cons_zero, List.set_cons_succ]
        refine wpAnyH_ready (rs := [4]) (by kernel_rfl) (by simp) ?_
        refine AllReadyH.cons rfl (fun K hK => ?_) AllReadyH.nil
        go_simp
        refine (rest_any g d r _ hrdD hr100).mono ?_
        rintro e w6 ⟨A6, c6, rfl, hown6, hrd6, hf6⟩
        have hb6 := below_frm hbj.drew hf6 hbj.size (fun k hk => by omega)
        have hcv6 := conv_rds (P := Try.prog) w6 22 9 5 Try.underlying22 Try.underlying5 Try.underlying9 A6 _ c6 r (Seg.of_own hown6).rds
        have hcvb6 := conv_rds (P := Try.prog) w6 22 9 5 Try.underlying22 Try.underlying5 Try.underlying9 a0 m cap0 xb (HR.out.below hb6)
        refine hK.out _ _ (hcvb6) (fun hHeld => ?_)
        clear hK K
        refine wpAnyH_ready (rs := [5]) (by kernel_rfl) (by simp) ?_
        refine AllReadyH.cons rfl (fun K hK => ?_) AllReadyH.nil
        go_simp
        refine hK.out _ _ (hcvb6) (fun hHeld => ?_)
        clear hK K
        refine wpAnyH_take (i := 6) (v := ?v7) rfl (by kernel_rfl) (by kernel_rfl) (by kernel_rfl) (fun _ _ _ h => h) (Or.inl ⟨by rfl, ?hy7⟩) (by assumption) ?rest7
        case hy7 => (intro w hSw; (try dsimp only at hSw); go_simp; try with_reducible rfl)
        try simp only [Act.put, List.getElem_toArray, List.getElem_cons_zero, List.getElem_cons_succ, List.setIfInBounds_toArray, List.set_cons_zero, List.set_cons_succ]
        refine wpAnyH_take (i := 9) (v := ?v8) rfl (by kernel_rfl) (by kernel_rfl) (by kernel_rfl) (fun _ _ _ h => h) (Or.inl ⟨by rfl, ?hy8⟩) (by assumption) ?rest8
        case hy8 => (intro w hSw; (try dsimp only at hSw); go_simp; try with_reducible rfl)
        try simp only [Act.put, List.getElem_toArray, List.getElem_cons_zero, List.getElem_cons_succ, List.setIfInBounds_toArray, List.set_cons_zero, List.set_cons_succ]
        refine wpAnyH_take (i := 10) (v := ?v9) rfl (by kernel_rfl) (by kernel_rfl) (by kernel_rfl) (fun _ _ _ h => h) (Or.inl ⟨by rfl, ?hy9⟩) (by assumption) ?rest9
        case hy9 => (intro w hSw; (try dsimp only at hSw); go_simp; try with_reducible rfl)
        try simp only [Act.put, List.getElem_toArray, List.getElem_cons_zero, List.getElem_cons_succ, List.setIfInBounds_toArray, List.set_cons_zero, List.set_cons_succ]
        refine wpAnyH_take (i := 11) (v := ?v10) rfl (by kernel_rfl) (by kernel_rfl) (by kernel_rfl) (fun _ _ _ h => h) (Or.inl ⟨by rfl, ?hy10⟩) (by assumption) ?rest10
        case hy10 => (intro w hSw; (try dsimp only at hSw); go_simp; try with_reducible rfl)
        try simp only [Act.put, List.getElem_toArray, List.getElem_cons_zero, List.getElem_cons_succ, List.setIfInBounds_toArray, List.set_cons_zero, List.set_cons_succ]
        refine wpAnyH_take (i := 12) (v := ?v11) rfl (by kernel_rfl) (by kernel_rfl) (by kernel_rfl) (fun _ _ _ h => h) (Or.inl ⟨by rfl, ?hy11⟩) (by assumption) ?rest11
        case hy11 => (intro w hSw; (try dsimp only at hSw); go_simp; try with_reducible rfl)
        try simp only [Act.put, List.getElem_toArray, List.getElem_cons_zero, List.getElem_cons_succ, List.setIfInBounds_toArray, List.set_cons_zero, List.set_cons_succ]
        refine wpAnyH_ready (rs := [13]) (by kernel_rfl) (by simp) ?_
        refine AllReadyH.cons rfl (fun K hK => ?_) AllReadyH.nil
        go_simp
        refine (left_any g d [] _ hrd6 nil100).mono ?_
        rintro e w7 ⟨rfl, rfl⟩
        refine hK.out _ _ (hcvb6) (fun hHeld => ?_)
        clear hK K
        refine wpAnyH_take (i := 14) (v := ?v12) rfl (by kernel_rfl) (by kernel_rfl) (by kernel_rfl) (fun _ _ _ h => h) (Or.inl ⟨by rfl, ?hy12⟩) (by assumption) ?rest12
        case hy12 => (intro w hSw; (try dsimp only at hSw); go_simp; try with_reducible rfl)
        try simp only [Act.put, List.getElem_toArray, List.getElem_cons_zero, List.getElem_cons_succ, List.setIfInBounds_toArray, List.set_cons_zero, List.set_cons_succ]
        refine wpAnyH_take (i := 15) (v := ?v13) rfl (by kernel_rfl) (by kernel_rfl) (by kernel_rfl) (fun _ _ _ h => h) (Or.inl ⟨by rfl, ?hy13⟩) (by assumption) ?rest13
        case hy13 => (intro w hSw; (try dsimp only at hSw); go_simp; try with_reducible rfl)
        try simp only [Act.put, List.getElem_toArray, List.getElem_cons_zero, List.getElem_cons_succ, List.setIfInBounds_toArray, List.set_cons_zero, List.set_cons_succ]
        refine wpAnyH_take (i := 16) (v := ?v14) rfl (by kernel_rfl) (by kernel_rfl) (by kernel_rfl) (fun _ _ _ h => h) (Or.inl ⟨by rfl, ?hy14⟩) (by assumption) ?rest14
        case hy14 => (intro w hSw; (try dsimp only at hSw); go_simp; try with_reducible rfl)
        try simp only [Act.put, List.getElem_toArray, List.getElem_cons_zero, List.getElem_cons_succ, List.setIfInBounds_toArray, List.set_cons_zero, List.set_cons_succ]
        refine wpAnyH_take (i := 17) (v := ?v15) rfl (by kernel_rfl) (by kernel_rfl) (by kernel_rfl) (fun _ _ _ h => h) (Or.inl ⟨by rfl, ?hy15⟩) (by assumption) ?rest15
        case hy15 => (intro w hSw; (try dsimp only at hSw); go_simp; try with_reducible rfl)
        try simp only [Act.put, List.getElem_toArray, List.getElem_cons_zero, List.getElem_cons_succ, List.setIfInBounds_toArray, List.set_cons_zero, List.set_cons_succ]
        refine wpAnyH_ready (rs := [18]) (by kernel_rfl) (by simp) ?_
        refine AllReadyH.cons rfl (fun K hK => ?_) AllReadyH.nil
        go_simp
        refine (done_any g d [] _ hrd6 nil100).mono ?_
        rintro e w8 ⟨rfl, rfl⟩
        have hz : errLeft [] = 0 := rfl
        refine hK.out _ _ (hcvb6) (fun hHeld => ?_)
        clear hK K
        refine wpAnyH_take (i := 19) (v := ?v16) rfl (by kernel_rfl) (by kernel_rfl) (by kernel_rfl) (fun _ _ _ h => h) (Or.inl ⟨by rfl, ?hy16⟩) (by assumption) ?rest16
        case hy16 => (intro w hSw; (try dsimp only at hSw); go_simp; try with_reducible rfl)
        try simp only [Act.put, List.getElem_toArray, List.getElem_cons_zero, List.getElem_cons_succ, List.setIfInBounds_toArray, List.set_cons_zero, List.set_cons_succ]
        refine wpAnyH_take (i := 20) (v := ?v17) rfl (by kernel_rfl) (by kernel_rfl) (by kernel_rfl) (fun _ _ _ h => h) (Or.inl ⟨by rfl, ?hy17⟩) (by assumption) ?rest17
        case hy17 => (intro w hSw; (try dsimp only at hSw); go_simp; try with_reducible rfl)
        try simp only [Act.put, List.getElem_toArray, List.getElem_cons_zero, List.getElem_cons_succ, List.setIfInBounds_toArray, List.set_cons_zero, List.set_cons_succ]
        refine wpAnyH_take (i := 21) (v := ?v18) rfl (by kernel_rfl) (by kernel_rfl) (by kernel_rfl) (fun _ _ _ h => h) (Or.inl ⟨by rfl, ?hy18⟩) (by assumption) ?rest18
        case hy18 => (intro w hSw; (try dsimp only at hSw); go_simp; try with_reducible rfl)
        try simp only [Act.put, List.getElem_toArray, List.getElem_cons_zero, List.getElem_cons_succ, List.setIfInBounds_toArray, List.set_cons_zero, List.set_cons_succ]
        refine wpAnyH_done (by kernel_rfl) ?_ _
        go_wp2
        go_ret
        exact ⟨rfl, hb6⟩
    · have hq1 : decide ((k : Int) < (len1 : Int)) = false := by simp; omega
      generalize hr : xb.drop j = r at *
      have HRJ := hide hr
      clear hr
      have hrl : r.length ≤ 200 := by have := HLJ.out; omega
      have hcvb := conv_rds (P := Try.prog) wr.drew 22 9 5 Try.underlying22 Try.underlying5 Try.underlying9 a0 m cap0 xb (HR.out.below hbj.drew)
      have hap : ((⟨(xb.take j).toArray⟩ : ByteArray) ++ ⟨r.toArray⟩) = ⟨xb.toArray⟩ := by rw [txt_append, ← HRJ.out, List.take_append_drop]
      have hrdD : Rd wr.drew g d r := hrdj
      have hsz : ¬ 9223372036854775807 < min j xb.length + r.length := by omega
      have hr100 : r.length ≤ 100000 := by omega
      go_wp2_with fail
      refine wp_region_held_drew (S := fun W => Sem.run Try.prog (convert 22 9 (.slice a0 m cap0)) W = .ok (.string ⟨xb.toArray⟩) W) (by kernel_rfl) (hcvb) ?_
      intro hHeld
      refine wpAnyH_take (i := 0) (v := ?v19) rfl (by kernel_rfl) (by kernel_rfl) (by kernel_rfl) (fun _ _ _ h => h) (Or.inl ⟨by rfl, ?hy19⟩) (by assumption) ?rest19
      case hy19 => (intro w hSw; (try dsimp only at hSw); go_simp; try with_reducible rfl)
      try simp only [Act.put, List.getElem_toArray, List.getElem_cons_zero, List.setIfInBounds_toArray, List.set_cons_zero, List.set_cons_succ]
      refine wpAnyH_take (i := 1) (v := ?v20) rfl (by kernel_rfl) (by kernel_rfl) (by kernel_rfl) (fun _ _ _ h => h) (Or.inl ⟨by rfl, ?hy20⟩) (by assumption) ?rest20
      case hy20 => (intro w hSw; (try dsimp only at hSw); go_simp; try with_reducible rfl)
      try simp only [Act.put, List.getElem_toArray, List.getElem_cons_zero, List.getElem_cons_succ, List.setIfInBounds_toArray, List.set_cons_zero, List.set_cons_succ]
      refine wpAnyH_take (i := 2) (v := ?v21) rfl (by kernel_rfl) (by kernel_rfl) (by kernel_rfl) (fun _ _ _ h => h) (Or.inl ⟨by rfl, ?hy21⟩) (by assumption) ?rest21
      case hy21 => (intro w hSw; (try dsimp only at hSw); go_simp; try with_reducible rfl)
      try simp only [Act.put, List.getElem_toArray, List.getElem_cons_zero, List.getElem_cons_succ, List.setIfInBounds_toArray, List.set_cons_zero, List.set_cons_succ]
      refine wpAnyH_take (i := 3) (v := ?v22) rfl (by kernel_rfl) (by kernel_rfl) (by kernel_rfl) (fun _ _ _ h => h) (Or.inl ⟨by rfl, ?hy22⟩) (by assumption) ?rest22
      case hy22 => (intro w hSw; (try dsimp only at hSw); go_simp; try with_reducible rfl)
      try simp only [Act.put, List.getElem_toArray, List.getElem_cons_zero, List.getElem_cons_succ, List.setIfInBounds_toArray, List.set_cons_zero, List.set_cons_succ]
      refine wpAnyH_take (i := 7) (v := ?v23) rfl (by kernel_rfl) (by kernel_rfl) (by kernel_rfl) (fun _ _ _ h => h) (Or.inl ⟨by rfl, ?hy23⟩) (by assumption) ?rest23
      case hy23 => (intro w hSw; (try dsimp only at hSw); go_simp; try with_reducible rfl)
      try simp only [Act.put, List.getElem_toArray, List.getElem_cons_zero, List.getElem_cons_succ, List.setIfInBounds_toArray, List.set_cons_zero, List.set_cons_succ]
      refine wpAnyH_take (i := 8) (v := ?v24) rfl (by kernel_rfl) (by kernel_rfl) (by kernel_rfl) (fun _ _ _ h => h) (Or.inl ⟨by rfl, ?hy24⟩) (by assumption) ?rest24
      case hy24 => (intro w hSw; (try dsimp only at hSw); go_simp; try with_reducible rfl)
      try simp only [Act.put, List.getElem_toArray, List.getElem_cons_zero, List.getElem_cons_succ, List.setIfInBounds_toArray, List.set_cons_zero, List.set_cons_succ]
      refine wpAnyH_ready (rs := [4]) (by kernel_rfl) (by simp) ?_
      refine AllReadyH.cons rfl (fun K hK => ?_) AllReadyH.nil
      go_simp
      refine (rest_any g d r _ hrdD hr100).mono ?_
      rintro e w6 ⟨A6, c6, rfl, hown6, hrd6, hf6⟩
      have hb6 := below_frm hbj.drew hf6 hbj.size (fun k hk => by omega)
      have hcv6 := conv_rds (P := Try.prog) w6 22 9 5 Try.underlying22 Try.underlying5 Try.underlying9 A6 _ c6 r (Seg.of_own hown6).rds
      have hcvb6 := conv_rds (P := Try.prog) w6 22 9 5 Try.underlying22 Try.underlying5 Try.underlying9 a0 m cap0 xb (HR.out.below hb6)
      refine hK.out _ _ (hcvb6) (fun hHeld => ?_)
      clear hK K
      refine wpAnyH_ready (rs := [5]) (by kernel_rfl) (by simp) ?_
      refine AllReadyH.cons rfl (fun K hK => ?_) AllReadyH.nil
      go_simp
      refine hK.out _ _ (hcvb6) (fun hHeld => ?_)
      clear hK K
      refine wpAnyH_take (i := 6) (v := ?v25) rfl (by kernel_rfl) (by kernel_rfl) (by kernel_rfl) (fun _ _ _ h => h) (Or.inl ⟨by rfl, ?hy25⟩) (by assumption) ?rest25
      case hy25 => (intro w hSw; (try dsimp only at hSw); go_simp; try with_reducible rfl)
      try simp only [Act.put, List.getElem_toArray, List.getElem_cons_zero, List.getElem_cons_succ, List.setIfInBounds_toArray, List.set_cons_zero, List.set_cons_succ]
      refine wpAnyH_take (i := 9) (v := ?v26) rfl (by kernel_rfl) (by kernel_rfl) (by kernel_rfl) (fun _ _ _ h => h) (Or.inl ⟨by rfl, ?hy26⟩) (by assumption) ?rest26
      case hy26 => (intro w hSw; (try dsimp only at hSw); go_simp; try with_reducible rfl)
      try simp only [Act.put, List.getElem_toArray, List.getElem_cons_zero, List.getElem_cons_succ, List.setIfInBounds_toArray, List.set_cons_zero, List.set_cons_succ]
      refine wpAnyH_take (i := 10) (v := ?v27) rfl (by kernel_rfl) (by kernel_rfl) (by kernel_rfl) (fun _ _ _ h => h) (Or.inl ⟨by rfl, ?hy27⟩) (by assumption) ?rest27
      case hy27 => (intro w hSw; (try dsimp only at hSw); go_simp; try with_reducible rfl)
      try simp only [Act.put, List.getElem_toArray, List.getElem_cons_zero, List.getElem_cons_succ, List.setIfInBounds_toArray, List.set_cons_zero, List.set_cons_succ]
      refine wpAnyH_take (i := 11) (v := ?v28) rfl (by kernel_rfl) (by kernel_rfl) (by kernel_rfl) (fun _ _ _ h => h) (Or.inl ⟨by rfl, ?hy28⟩) (by assumption) ?rest28
      case hy28 => (intro w hSw; (try dsimp only at hSw); go_simp; try with_reducible rfl)
      try simp only [Act.put, List.getElem_toArray, List.getElem_cons_zero, List.getElem_cons_succ, List.setIfInBounds_toArray, List.set_cons_zero, List.set_cons_succ]
      refine wpAnyH_take (i := 12) (v := ?v29) rfl (by kernel_rfl) (by kernel_rfl) (by kernel_rfl) (fun _ _ _ h => h) (Or.inl ⟨by rfl, ?hy29⟩) (by assumption) ?rest29
      case hy29 => (intro w hSw; (try dsimp only at hSw); go_simp; try with_reducible rfl)
      try simp only [Act.put, List.getElem_toArray, List.getElem_cons_zero, List.getElem_cons_succ, List.setIfInBounds_toArray, List.set_cons_zero, List.set_cons_succ]
      refine wpAnyH_ready (rs := [13]) (by kernel_rfl) (by simp) ?_
      refine AllReadyH.cons rfl (fun K hK => ?_) AllReadyH.nil
      go_simp
      refine (left_any g d [] _ hrd6 nil100).mono ?_
      rintro e w7 ⟨rfl, rfl⟩
      refine hK.out _ _ (hcvb6) (fun hHeld => ?_)
      clear hK K
      refine wpAnyH_take (i := 14) (v := ?v30) rfl (by kernel_rfl) (by kernel_rfl) (by kernel_rfl) (fun _ _ _ h => h) (Or.inl ⟨by rfl, ?hy30⟩) (by assumption) ?rest30
      case hy30 => (intro w hSw; (try dsimp only at hSw); go_simp; try with_reducible rfl)
      try simp only [Act.put, List.getElem_toArray, List.getElem_cons_zero, List.getElem_cons_succ, List.setIfInBounds_toArray, List.set_cons_zero, List.set_cons_succ]
      refine wpAnyH_take (i := 15) (v := ?v31) rfl (by kernel_rfl) (by kernel_rfl) (by kernel_rfl) (fun _ _ _ h => h) (Or.inl ⟨by rfl, ?hy31⟩) (by assumption) ?rest31
      case hy31 => (intro w hSw; (try dsimp only at hSw); go_simp; try with_reducible rfl)
      try simp only [Act.put, List.getElem_toArray, List.getElem_cons_zero, List.getElem_cons_succ, List.setIfInBounds_toArray, List.set_cons_zero, List.set_cons_succ]
      refine wpAnyH_take (i := 16) (v := ?v32) rfl (by kernel_rfl) (by kernel_rfl) (by kernel_rfl) (fun _ _ _ h => h) (Or.inl ⟨by rfl, ?hy32⟩) (by assumption) ?rest32
      case hy32 => (intro w hSw; (try dsimp only at hSw); go_simp; try with_reducible rfl)
      try simp only [Act.put, List.getElem_toArray, List.getElem_cons_zero, List.getElem_cons_succ, List.setIfInBounds_toArray, List.set_cons_zero, List.set_cons_succ]
      refine wpAnyH_take (i := 17) (v := ?v33) rfl (by kernel_rfl) (by kernel_rfl) (by kernel_rfl) (fun _ _ _ h => h) (Or.inl ⟨by rfl, ?hy33⟩) (by assumption) ?rest33
      case hy33 => (intro w hSw; (try dsimp only at hSw); go_simp; try with_reducible rfl)
      try simp only [Act.put, List.getElem_toArray, List.getElem_cons_zero, List.getElem_cons_succ, List.setIfInBounds_toArray, List.set_cons_zero, List.set_cons_succ]
      refine wpAnyH_ready (rs := [18]) (by kernel_rfl) (by simp) ?_
      refine AllReadyH.cons rfl (fun K hK => ?_) AllReadyH.nil
      go_simp
      refine (done_any g d [] _ hrd6 nil100).mono ?_
      rintro e w8 ⟨rfl, rfl⟩
      have hz : errLeft [] = 0 := rfl
      refine hK.out _ _ (hcvb6) (fun hHeld => ?_)
      clear hK K
      refine wpAnyH_take (i := 19) (v := ?v34) rfl (by kernel_rfl) (by kernel_rfl) (by kernel_rfl) (fun _ _ _ h => h) (Or.inl ⟨by rfl, ?hy34⟩) (by assumption) ?rest34
      case hy34 => (intro w hSw; (try dsimp only at hSw); go_simp; try with_reducible rfl)
      try simp only [Act.put, List.getElem_toArray, List.getElem_cons_zero, List.getElem_cons_succ, List.setIfInBounds_toArray, List.set_cons_zero, List.set_cons_succ]
      refine wpAnyH_take (i := 20) (v := ?v35) rfl (by kernel_rfl) (by kernel_rfl) (by kernel_rfl) (fun _ _ _ h => h) (Or.inl ⟨by rfl, ?hy35⟩) (by assumption) ?rest35
      case hy35 => (intro w hSw; (try dsimp only at hSw); go_simp; try with_reducible rfl)
      try simp only [Act.put, List.getElem_toArray, List.getElem_cons_zero, List.getElem_cons_succ, List.setIfInBounds_toArray, List.set_cons_zero, List.set_cons_succ]
      refine wpAnyH_take (i := 21) (v := ?v36) rfl (by kernel_rfl) (by kernel_rfl) (by kernel_rfl) (fun _ _ _ h => h) (Or.inl ⟨by rfl, ?hy36⟩) (by assumption) ?rest36
      case hy36 => (intro w hSw; (try dsimp only at hSw); go_simp; try with_reducible rfl)
      try simp only [Act.put, List.getElem_toArray, List.getElem_cons_zero, List.getElem_cons_succ, List.setIfInBounds_toArray, List.set_cons_zero, List.set_cons_succ]
      refine wpAnyH_done (by kernel_rfl) ?_ _
      go_wp2
      go_ret
      exact ⟨rfl, hb6⟩

set_option maxHeartbeats 4000000 in
set_option maxRecDepth 100000 in
theorem parts_walk_none (a0 : Option Addr) (len0 cap0 : Nat) (lb : List UInt8) (len1 cap1 : Nat) (ls : List UInt8) (w : World) (h0 : Rds w a0 len0 (cellsB lb)) (hc0 : len0 ≤ cap0) (hm0 : cap0 ≤ 9223372036854775807) (h1 : Rds w none len1 (cellsB ls)) (hc1 : len1 ≤ cap1) (hm1 : cap1 ≤ 9223372036854775807) :
    Calls Try.prog 6 #[.slice a0 len0 cap0, .slice none len1 cap1] w fun e w' => e = .returned (.bool true) ∧ Below w.heap.size w w' := by
  obtain ⟨m, HM, hm1, hm2⟩ := nat_min len0 200
  have HR := hide (h0.take m hm1)
  rw [cellsB_take] at HR
  have HL : Hid ((lb.take m).length = m) := by have := HR.out.1; rwa [cellsB_length] at this
  generalize lb.take m = xb at *
  have HS := hide h1
  clear h1
  go_enter Try.func6, Try.ntmps6
  go_wp2_with fail
  refine (shown_any _).mono ?_
  rintro e w1 ⟨rfl, hb1⟩
  go_wp2_with (first | (refine wpl_min rfl (.tmp 16) (.const (.int .i64 200)) _ _ rfl _ (len0 : Int) 200 (m : Int) rfl rfl HM.out ?_) | fail)
  refine (read_any a0 m cap0 xb _ (HR.out.below hb1) (by omega)).mono ?_
  rintro e w2 ⟨g, d, rfl, hrd, hb2, hg, hd⟩
  have hb2' := hb1.trans (hb2.mono hb1.size)
  have hg' : w.heap.size ≤ g := Nat.le_trans hb1.size hg
  clear hd hb2 hg hb1
  go_wp2_with fail
  go_loopw [7, 8] (fun s i wr => ∃ k j : Nat, k ≤ len1 ∧ k ≤ 40 ∧ j ≤ m ∧ i = .int .i64 k ∧ s = .string ⟨(xb.take j).toArray⟩ ∧ Rd wr g d (xb.drop j) ∧ Below w.heap.size w wr) (fun _ i _ => 40 - (intOf i).toNat)
  case atStart => exact ⟨0, 0, by omega, by omega, by omega, rfl, rfl, hrd, hb2'⟩
  case round =>
    obtain ⟨k, j, hk1, hk2, hj, rfl, rfl, hrdj, hbj⟩ := hrel
    have HLJ : Hid ((xb.drop j).length = m - j) := by rw [List.length_drop, HL.out]; rfl
    have hl0 : len1 = 0 := by
      rcases Nat.eq_zero_or_pos len1 with h | h
      · exact h
      · obtain ⟨a, h, _⟩ := HS.out.2 h; cases h
    have HL0 := hide hl0
    clear hl0
    by_cases hlt : k < len1
    · have := HL0.out; omega
    · have hq1 : decide ((k : Int) < (len1 : Int)) = false := by simp; omega
      generalize hr : xb.drop j = r at *
      have HRJ := hide hr
      clear hr
      have hrl : r.length ≤ 200 := by have := HLJ.out; omega
      have hcvb := conv_rds (P := Try.prog) wr.drew 22 9 5 Try.underlying22 Try.underlying5 Try.underlying9 a0 m cap0 xb (HR.out.below hbj.drew)
      have hap : ((⟨(xb.take j).toArray⟩ : ByteArray) ++ ⟨r.toArray⟩) = ⟨xb.toArray⟩ := by rw [txt_append, ← HRJ.out, List.take_append_drop]
      have hrdD : Rd wr.drew g d r := hrdj
      have hsz : ¬ 9223372036854775807 < min j xb.length + r.length := by omega
      have hr100 : r.length ≤ 100000 := by omega
      go_wp2_with fail
      refine wp_region_held_drew (S := fun W => Sem.run Try.prog (convert 22 9 (.slice a0 m cap0)) W = .ok (.string ⟨xb.toArray⟩) W) (by kernel_rfl) (hcvb) ?_
      intro hHeld
      refine wpAnyH_take (i := 0) (v := ?v37) rfl (by kernel_rfl) (by kernel_rfl) (by kernel_rfl) (fun _ _ _ h => h) (Or.inl ⟨by rfl, ?hy37⟩) (by assumption) ?rest37
      case hy37 => (intro w hSw; (try dsimp only at hSw); go_simp; try with_reducible rfl)
      try simp only [Act.put, List.getElem_toArray, List.getElem_cons_zero, List.setIfInBounds_toArray, List.set_cons_zero, List.set_cons_succ]
      refine wpAnyH_take (i := 1) (v := ?v38) rfl (by kernel_rfl) (by kernel_rfl) (by kernel_rfl) (fun _ _ _ h => h) (Or.inl ⟨by rfl, ?hy38⟩) (by assumption) ?rest38
      case hy38 => (intro w hSw; (try dsimp only at hSw); go_simp; try with_reducible rfl)
      try simp only [Act.put, List.getElem_toArray, List.getElem_cons_zero, List.getElem_cons_succ, List.setIfInBounds_toArray, List.set_cons_zero, List.set_cons_succ]
      refine wpAnyH_take (i := 2) (v := ?v39) rfl (by kernel_rfl) (by kernel_rfl) (by kernel_rfl) (fun _ _ _ h => h) (Or.inl ⟨by rfl, ?hy39⟩) (by assumption) ?rest39
      case hy39 => (intro w hSw; (try dsimp only at hSw); go_simp; try with_reducible rfl)
      try simp only [Act.put, List.getElem_toArray, List.getElem_cons_zero, List.getElem_cons_succ, List.setIfInBounds_toArray, List.set_cons_zero, List.set_cons_succ]
      refine wpAnyH_take (i := 3) (v := ?v40) rfl (by kernel_rfl) (by kernel_rfl) (by kernel_rfl) (fun _ _ _ h => h) (Or.inl ⟨by rfl, ?hy40⟩) (by assumption) ?rest40
      case hy40 => (intro w hSw; (try dsimp only at hSw); go_simp; try with_reducible rfl)
      try simp only [Act.put, List.getElem_toArray, List.getElem_cons_zero, List.getElem_cons_succ, List.setIfInBounds_toArray, List.set_cons_zero, List.set_cons_succ]
      refine wpAnyH_take (i := 7) (v := ?v41) rfl (by kernel_rfl) (by kernel_rfl) (by kernel_rfl) (fun _ _ _ h => h) (Or.inl ⟨by rfl, ?hy41⟩) (by assumption) ?rest41
      case hy41 => (intro w hSw; (try dsimp only at hSw); go_simp; try with_reducible rfl)
      try simp only [Act.put, List.getElem_toArray, List.getElem_cons_zero, List.getElem_cons_succ, List.setIfInBounds_toArray, List.set_cons_zero, List.set_cons_succ]
      refine wpAnyH_take (i := 8) (v := ?v42) rfl (by kernel_rfl) (by kernel_rfl) (by kernel_rfl) (fun _ _ _ h => h) (Or.inl ⟨by rfl, ?hy42⟩) (by assumption) ?rest42
      case hy42 => (intro w hSw; (try dsimp only at hSw); go_simp; try with_reducible rfl)
      try simp only [Act.put, List.getElem_toArray, List.getElem_cons_zero, List.getElem_cons_succ, List.setIfInBounds_toArray, List.set_cons_zero, List.set_cons_succ]
      refine wpAnyH_ready (rs := [4]) (by kernel_rfl) (by simp) ?_
      refine AllReadyH.cons rfl (fun K hK => ?_) AllReadyH.nil
      go_simp
      refine (rest_any g d r _ hrdD hr100).mono ?_
      rintro e w6 ⟨A6, c6, rfl, hown6, hrd6, hf6⟩
      have hb6 := below_frm hbj.drew hf6 hbj.size (fun k hk => by omega)
      have hcv6 := conv_rds (P := Try.prog) w6 22 9 5 Try.underlying22 Try.underlying5 Try.underlying9 A6 _ c6 r (Seg.of_own hown6).rds
      have hcvb6 := conv_rds (P := Try.prog) w6 22 9 5 Try.underlying22 Try.underlying5 Try.underlying9 a0 m cap0 xb (HR.out.below hb6)
      refine hK.out _ _ (hcvb6) (fun hHeld => ?_)
      clear hK K
      refine wpAnyH_ready (rs := [5]) (by kernel_rfl) (by simp) ?_
      refine AllReadyH.cons rfl (fun K hK => ?_) AllReadyH.nil
      go_simp
      refine hK.out _ _ (hcvb6) (fun hHeld => ?_)
      clear hK K
      refine wpAnyH_take (i := 6) (v := ?v43) rfl (by kernel_rfl) (by kernel_rfl) (by kernel_rfl) (fun _ _ _ h => h) (Or.inl ⟨by rfl, ?hy43⟩) (by assumption) ?rest43
      case hy43 => (intro w hSw; (try dsimp only at hSw); go_simp; try with_reducible rfl)
      try simp only [Act.put, List.getElem_toArray, List.getElem_cons_zero, List.getElem_cons_succ, List.setIfInBounds_toArray, List.set_cons_zero, List.set_cons_succ]
      refine wpAnyH_take (i := 9) (v := ?v44) rfl (by kernel_rfl) (by kernel_rfl) (by kernel_rfl) (fun _ _ _ h => h) (Or.inl ⟨by rfl, ?hy44⟩) (by assumption) ?rest44
      case hy44 => (intro w hSw; (try dsimp only at hSw); go_simp; try with_reducible rfl)
      try simp only [Act.put, List.getElem_toArray, List.getElem_cons_zero, List.getElem_cons_succ, List.setIfInBounds_toArray, List.set_cons_zero, List.set_cons_succ]
      refine wpAnyH_take (i := 10) (v := ?v45) rfl (by kernel_rfl) (by kernel_rfl) (by kernel_rfl) (fun _ _ _ h => h) (Or.inl ⟨by rfl, ?hy45⟩) (by assumption) ?rest45
      case hy45 => (intro w hSw; (try dsimp only at hSw); go_simp; try with_reducible rfl)
      try simp only [Act.put, List.getElem_toArray, List.getElem_cons_zero, List.getElem_cons_succ, List.setIfInBounds_toArray, List.set_cons_zero, List.set_cons_succ]
      refine wpAnyH_take (i := 11) (v := ?v46) rfl (by kernel_rfl) (by kernel_rfl) (by kernel_rfl) (fun _ _ _ h => h) (Or.inl ⟨by rfl, ?hy46⟩) (by assumption) ?rest46
      case hy46 => (intro w hSw; (try dsimp only at hSw); go_simp; try with_reducible rfl)
      try simp only [Act.put, List.getElem_toArray, List.getElem_cons_zero, List.getElem_cons_succ, List.setIfInBounds_toArray, List.set_cons_zero, List.set_cons_succ]
      refine wpAnyH_take (i := 12) (v := ?v47) rfl (by kernel_rfl) (by kernel_rfl) (by kernel_rfl) (fun _ _ _ h => h) (Or.inl ⟨by rfl, ?hy47⟩) (by assumption) ?rest47
      case hy47 => (intro w hSw; (try dsimp only at hSw); go_simp; try with_reducible rfl)
      try simp only [Act.put, List.getElem_toArray, List.getElem_cons_zero, List.getElem_cons_succ, List.setIfInBounds_toArray, List.set_cons_zero, List.set_cons_succ]
      refine wpAnyH_ready (rs := [13]) (by kernel_rfl) (by simp) ?_
      refine AllReadyH.cons rfl (fun K hK => ?_) AllReadyH.nil
      go_simp
      refine (left_any g d [] _ hrd6 nil100).mono ?_
      rintro e w7 ⟨rfl, rfl⟩
      refine hK.out _ _ (hcvb6) (fun hHeld => ?_)
      clear hK K
      refine wpAnyH_take (i := 14) (v := ?v48) rfl (by kernel_rfl) (by kernel_rfl) (by kernel_rfl) (fun _ _ _ h => h) (Or.inl ⟨by rfl, ?hy48⟩) (by assumption) ?rest48
      case hy48 => (intro w hSw; (try dsimp only at hSw); go_simp; try with_reducible rfl)
      try simp only [Act.put, List.getElem_toArray, List.getElem_cons_zero, List.getElem_cons_succ, List.setIfInBounds_toArray, List.set_cons_zero, List.set_cons_succ]
      refine wpAnyH_take (i := 15) (v := ?v49) rfl (by kernel_rfl) (by kernel_rfl) (by kernel_rfl) (fun _ _ _ h => h) (Or.inl ⟨by rfl, ?hy49⟩) (by assumption) ?rest49
      case hy49 => (intro w hSw; (try dsimp only at hSw); go_simp; try with_reducible rfl)
      try simp only [Act.put, List.getElem_toArray, List.getElem_cons_zero, List.getElem_cons_succ, List.setIfInBounds_toArray, List.set_cons_zero, List.set_cons_succ]
      refine wpAnyH_take (i := 16) (v := ?v50) rfl (by kernel_rfl) (by kernel_rfl) (by kernel_rfl) (fun _ _ _ h => h) (Or.inl ⟨by rfl, ?hy50⟩) (by assumption) ?rest50
      case hy50 => (intro w hSw; (try dsimp only at hSw); go_simp; try with_reducible rfl)
      try simp only [Act.put, List.getElem_toArray, List.getElem_cons_zero, List.getElem_cons_succ, List.setIfInBounds_toArray, List.set_cons_zero, List.set_cons_succ]
      refine wpAnyH_take (i := 17) (v := ?v51) rfl (by kernel_rfl) (by kernel_rfl) (by kernel_rfl) (fun _ _ _ h => h) (Or.inl ⟨by rfl, ?hy51⟩) (by assumption) ?rest51
      case hy51 => (intro w hSw; (try dsimp only at hSw); go_simp; try with_reducible rfl)
      try simp only [Act.put, List.getElem_toArray, List.getElem_cons_zero, List.getElem_cons_succ, List.setIfInBounds_toArray, List.set_cons_zero, List.set_cons_succ]
      refine wpAnyH_ready (rs := [18]) (by kernel_rfl) (by simp) ?_
      refine AllReadyH.cons rfl (fun K hK => ?_) AllReadyH.nil
      go_simp
      refine (done_any g d [] _ hrd6 nil100).mono ?_
      rintro e w8 ⟨rfl, rfl⟩
      have hz : errLeft [] = 0 := rfl
      refine hK.out _ _ (hcvb6) (fun hHeld => ?_)
      clear hK K
      refine wpAnyH_take (i := 19) (v := ?v52) rfl (by kernel_rfl) (by kernel_rfl) (by kernel_rfl) (fun _ _ _ h => h) (Or.inl ⟨by rfl, ?hy52⟩) (by assumption) ?rest52
      case hy52 => (intro w hSw; (try dsimp only at hSw); go_simp; try with_reducible rfl)
      try simp only [Act.put, List.getElem_toArray, List.getElem_cons_zero, List.getElem_cons_succ, List.setIfInBounds_toArray, List.set_cons_zero, List.set_cons_succ]
      refine wpAnyH_take (i := 20) (v := ?v53) rfl (by kernel_rfl) (by kernel_rfl) (by kernel_rfl) (fun _ _ _ h => h) (Or.inl ⟨by rfl, ?hy53⟩) (by assumption) ?rest53
      case hy53 => (intro w hSw; (try dsimp only at hSw); go_simp; try with_reducible rfl)
      try simp only [Act.put, List.getElem_toArray, List.getElem_cons_zero, List.getElem_cons_succ, List.setIfInBounds_toArray, List.set_cons_zero, List.set_cons_succ]
      refine wpAnyH_take (i := 21) (v := ?v54) rfl (by kernel_rfl) (by kernel_rfl) (by kernel_rfl) (fun _ _ _ h => h) (Or.inl ⟨by rfl, ?hy54⟩) (by assumption) ?rest54
      case hy54 => (intro w hSw; (try dsimp only at hSw); go_simp; try with_reducible rfl)
      try simp only [Act.put, List.getElem_toArray, List.getElem_cons_zero, List.getElem_cons_succ, List.setIfInBounds_toArray, List.set_cons_zero, List.set_cons_succ]
      refine wpAnyH_done (by kernel_rfl) ?_ _
      go_wp2
      go_ret
      exact ⟨rfl, hb6⟩

theorem parts_walk (a0 : Option Addr) (len0 cap0 : Nat) (lb : List UInt8) (a1 : Option Addr) (len1 cap1 : Nat) (ls : List UInt8) (w : World) (h0 : Rds w a0 len0 (cellsB lb)) (hc0 : len0 ≤ cap0) (hm0 : cap0 ≤ 9223372036854775807) (h1 : Rds w a1 len1 (cellsB ls)) (hc1 : len1 ≤ cap1) (hm1 : cap1 ≤ 9223372036854775807) :
    Calls Try.prog 6 #[.slice a0 len0 cap0, .slice a1 len1 cap1] w fun e w' => e = .returned (.bool true) ∧ Below w.heap.size w w' := by
  rcases a1 with _ | ad
  · exact parts_walk_none a0 len0 cap0 lb len1 cap1 ls w h0 hc0 hm0 h1 hc1 hm1
  · exact parts_walk_some a0 len0 cap0 lb ad len1 cap1 ls w h0 hc0 hm0 h1 hc1 hm1
end Go.Proofs.Ytiamopkdapdpaaa
