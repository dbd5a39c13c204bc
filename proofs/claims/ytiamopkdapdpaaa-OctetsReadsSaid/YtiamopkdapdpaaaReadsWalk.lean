/-
  OctetsReads: the walk.
-/
import Derived.Test.YtiamopkdapdpaaaMore2
namespace Go.Proofs.Ytiamopkdapdpaaa
set_option linter.unusedVariables false
open Go.RowKit

theorem add_next (a : Addr) (n : Nat) : (⟨(a.add n).block, (a.add n).off + 1, none⟩ : Addr) = a.add (n + 1) := by
  unfold Addr.add
  by_cases h : n = 0 <;> simp [h, Nat.add_assoc]

/-- A slice of steps: two numbers each. -/
def Steps2 (w : World) (A : Option Addr) (n : Nat) (K N : Nat → Int) : Prop :=
  0 < n → ∃ a, A = some a ∧ ∀ i, i < n → w.cell? (a.add (i * 2)) = some (.int .i64 (K i)) ∧ w.cell? (a.add (i * 2 + 1)) = some (.int .i64 (N i)) ∧ -9223372036854775808 ≤ N i ∧ N i ≤ 9223372036854775807

/-- What the loop keeps. -/
structure ReadsInv (xb : List UInt8) (w : World) (g gs gz : Nat) (d : Option Nat) (j : Nat) (wr : World) : Prop where
  r : Rd wr g d (xb.drop j)
  f : Rf wr gs (xb.drop j)
  z : Blk wr gz 3 #[.int .i64 0, .int .i64 1, .int .i64 2, .int .i64 4, .int .i64 8]
  bel : Below w.heap.size w wr

set_option maxHeartbeats 16000000 in
set_option maxRecDepth 100000 in
theorem reads_walk_some (a0 : Option Addr) (len0 cap0 : Nat) (lb : List UInt8) (ad : Addr) (len1 cap1 : Nat) (K N : Nat → Int) (w : World) (h0 : Rds w a0 len0 (cellsB lb)) (hc0 : len0 ≤ cap0) (hm0 : cap0 ≤ 9223372036854775807) (h1 : Steps2 w (some ad) len1 K N) (hc1 : len1 ≤ cap1) (hm1 : cap1 ≤ 9223372036854775807) :
    Calls Try.prog 3 #[.slice a0 len0 cap0, .slice (some ad) len1 cap1] w fun e w' => e = .returned (.bool true) ∧ Below w.heap.size w w' := by
  obtain ⟨m, HM, hm1, hm2⟩ := nat_min len0 200
  have HR := hide (h0.take m hm1)
  rw [cellsB_take] at HR
  have HL : Hid ((lb.take m).length = m) := by have := HR.out.1; rwa [cellsB_length] at this
  generalize lb.take m = xb at *
  have HS := hide h1
  clear h1
  go_enter Try.func3, Try.ntmps3
  go_wp2_with fail
  refine (shown_any _).mono ?_
  rintro e w1 ⟨rfl, hb1⟩
  have hr1 : Rds (w1.alloc (.cells #[] 5)) a0 m (cellsB xb) := HR.out.below (hb1.alloc hb1.size _)
  have ho1 := World.ownsRow_made (e := 5) (size := 1) (base := w1.heap.size) w1 #[] 0 (Nat.le_refl _) (by simp [maxLen]) (by simp)
  have hsm1 : (0 + m) * 1 ≤ 140737488355328 := by omega
  have hsm2 : 0 + m ≤ 140737488355328 := by omega
  have hsm3 : w1.heap.size ≤ (w1.alloc (.cells #[] 5)).heap.size := by simp
  go_wp2_with (first | (refine wpl_min rfl (.tmp 28) (.const (.int .i64 200)) _ _ rfl _ (len0 : Int) 200 (m : Int) rfl rfl HM.out ?_) | (at_builtin; refine wpl_app one_u8 rfl (.tmp 25) (.tmp 30) rfl _ w1.heap.size (.slice (some ⟨w1.heap.size, 0, none⟩) 0 0) 0 [] rfl ho1 a0 m cap0 (cellsB xb) rfl hr1 (cellsB_one xb) hsm1 hsm2 hsm3 ?_; intro Ao co w2 hown2 hg2 hat2))
  have hb2 : Below w.heap.size w w2 := (hb1.alloc hb1.size _).trans ((Frm.of_grown hg2).below (by have := hb1.size; simp; omega) (fun k hk => by have := hb1.size; have hh : k = w1.heap.size := Option.some.inj hk; omega))
  rw [Nat.zero_add, List.nil_append] at hown2
  have hb1s := hb1.size
  generalize w1.heap.size = B1 at *
  clear hr1 ho1 hsm1 hsm2 hsm3 hg2 hat2 hb1
  have HGo : Hid (∀ g0, Ao = some ⟨g0, 0, none⟩ → B1 ≤ g0 ∧ g0 < w2.heap.size) := fun g0 h => hown2.lt g0 (by rw [h]; rfl)
  have hrd2 : Rds w2 Ao m (cellsB xb) := (Seg.of_own hown2).rds
  refine (read_any2 Ao m co xb _ hrd2 (by omega)).mono ?_
  rintro e w3 ⟨g, d, rfl, hrd, hb3, hg, hd⟩
  have hb3' := hb2.trans (hb3.mono hb2.size)
  have hown3 := own_frm hown2 (Frm.of_below (S := fun _ => False) hb3) (fun _ _ h => h)
  have hcv3 := conv_rds (P := Try.prog) w3 22 9 5 Try.underlying22 Try.underlying5 Try.underlying9 Ao m co xb (Seg.of_own hown3).rds
  have hgl := hrd.lt
  have hB2 := hb2.size
  have Hd : Hid (∀ k, d = some k → w2.heap.size ≤ k ∧ k < g) := hd
  clear hown2 hrd2 hd hb3 hb2
  go_wp2_with fail
  have F4 : Frm (fun _ => False) w3 (w3.alloc (.cells #[.string ⟨xb.toArray⟩] 29)) := Frm.alloc _ _ _
  have hrf4 : Rf (w3.alloc (.cells #[.string ⟨xb.toArray⟩] 29)) w3.heap.size xb := Blk.new _ _ _
  have hrd4 := hrd.frm F4 (fun h => h) (fun _ _ h => h)
  have hown4 : OwnAny (w3.alloc (.cells #[.string ⟨xb.toArray⟩] 29)) B1 5 Ao m co := ⟨_, own_frm hown3 F4 (fun _ _ h => h)⟩
  have hb4 := hb3'.alloc hb3'.size (.cells #[.string ⟨xb.toArray⟩] 29)
  have hs4 : w3.heap.size < (w3.alloc (.cells #[.string ⟨xb.toArray⟩] 29)).heap.size := by simp
  have hB3 := hb3'.size
  clear F4 hown3 hcv3 hrd hb3'
  generalize w3.alloc (.cells #[.string ⟨xb.toArray⟩] 29) = W4 at *
  generalize w3.heap.size = gs at *
  go_loopw [9] (fun i wr => ∃ k : Nat, k ≤ m ∧ i = .int .i64 k ∧ OwnAny wr B1 5 Ao m co ∧ Frm (fun q => B1 ≤ q ∧ q < w2.heap.size) W4 wr) (fun i _ => m - (intOf i).toNat)
  case atStart => exact ⟨0, by omega, rfl, hown4, Frm.refl _ _⟩
  case round =>
    obtain ⟨k, hk, rfl, hOk, hFk⟩ := hrel
    by_cases hlt : k < m
    · obtain ⟨g0, v0, hA0, hb0, hg0, hck, hfk, hset⟩ := hOk.at hlt
      have HA0 := hide hA0
      have HSET := hide hset
      have hgo := HGo.out g0 hA0
      have hk0 : (0 : Int) ≤ (k : Int) := by omega
      have hkm : (k : Int) < (m : Int) := by omega
      have had : (⟨g0, 0, none⟩ : Addr).add ((k : Int)).toNat = ⟨g0, k, none⟩ := by rw [Int.toNat_natCast]; exact add_zero_off g0 k
      have HAD := hide had
      clear hA0 hset had
      go_wp2_with (refine wpl_idx one_u8 rfl (.tmp 46) (.tmp 47) rfl _ Ao m co (k : Int) rfl rfl ⟨g0, 0, none⟩ ⟨g0, k, none⟩ HA0.out hk0 hkm HAD.out ?_)
      go_roundw
      case rel => exact ⟨k + 1, by omega, by go_num, HSET.out _, hFk.trans (Frm.setCell _ _ _ (fun q => q = g0) rfl) (fun i _ hi => by omega)⟩
      case measure => simp [intOf]; omega
    · have hrd5 := hrd4.frm hFk (by omega) (fun k hk => by have := Hd.out k hk; omega)
      have hrf5 := hrf4.frm hFk (by omega)
      have hb5 := below_frm hb4 hFk hb4.size (fun k hk => by omega)
      have hsz5 := hFk.size
      clear hOk hFk hrd4 hrf4 hb4 hown4
      generalize w2.heap.size = B2 at *
      go_wp2_with fail
      have F6 : Frm (fun _ => False) wr (wr.alloc (.cells #[.int .i64 0, .int .i64 1, .int .i64 2, .int .i64 4, .int .i64 8] 3)) := Frm.alloc _ _ _
      have hinv : ReadsInv xb w g gs wr.heap.size d 0 (wr.alloc (.cells #[.int .i64 0, .int .i64 1, .int .i64 2, .int .i64 4, .int .i64 8] 3)) := ⟨hrd5.frm F6 (fun h => h) (fun _ _ h => h), hrf5.frm F6 (fun h => h), Blk.new _ _ _, hb5.alloc hb5.size _⟩
      have hgz : gs < wr.heap.size := by omega
      clear F6 hrd5 hrf5 hb5
      generalize wr.alloc (.cells #[.int .i64 0, .int .i64 1, .int .i64 2, .int .i64 4, .int .i64 8] 3) = W6 at *
      generalize wr.heap.size = gz at *
      go_loopw [11] (fun i wr => ∃ k j : Nat, k ≤ len1 ∧ k ≤ 50 ∧ j ≤ m ∧ i = .int .i64 k ∧ ReadsInv xb w g gs gz d j wr) (fun i _ => 50 - (intOf i).toNat)
      case atStart => exact ⟨0, 0, by omega, by omega, by omega, rfl, hinv⟩
      case round =>
        obtain ⟨k, j, hk1, hk2, hj, rfl, ⟨hR, hF, hZ, hB⟩⟩ := hrel
        have HLJ : Hid ((xb.drop j).length = m - j) := by rw [List.length_drop, HL.out]; rfl
        generalize hr : xb.drop j = r at *
        have HRJ := hide hr
        clear hr
        have hr100 : r.length ≤ 100000 := by have := HLJ.out; omega
        have hgl1 := hR.lt
        have hgl2 := Blk.lt hF
        have hgl3 := hZ.lt
        by_cases hlt : k < len1
        · by_cases hlt2 : k < 50
          · obtain ⟨ad', e1, hcell⟩ := HS.out (by omega)
            injection e1 with e1
            subst e1
            obtain ⟨hc1, hc2, hN1, hN2⟩ := hcell k hlt
            have hkc : wr.cell? (ad.add (k * 2)) = some (.int .i64 (K k)) := (hB.cell (World.block_lt_of_cell? _ _ hc1)).trans hc1
            have hnc : wr.cell? ⟨(ad.add (k * 2)).block, (ad.add (k * 2)).off + 1, none⟩ = some (.int .i64 (N k)) := by
              rw [add_next]
              exact (hB.cell (World.block_lt_of_cell? _ _ hc2)).trans hc2
            clear hc1 hc2 hcell
            generalize K k = kd at *
            generalize N k = nn at *
            have hX0 : Blk (wr.alloc (.cells #[.int .i64 kd, .int .i64 nn] 32)) wr.heap.size 32 #[.int .i64 kd, .int .i64 nn] := Blk.new _ _ _
            have F0 : Frm (fun _ => False) wr (wr.alloc (.cells #[.int .i64 kd, .int .i64 nn] 32)) := Frm.alloc _ _ _
            have hR0 := hR.frm F0 (fun h => h) (fun _ _ h => h)
            have hF0 := hF.frm F0 (fun h => h)
            have hZ0 := hZ.frm F0 (fun h => h)
            have hB0 := hB.alloc hB.size (.cells #[.int .i64 kd, .int .i64 nn] 32)
            have hs0 : wr.heap.size < (wr.alloc (.cells #[.int .i64 kd, .int .i64 nn] 32)).heap.size := by simp
            clear F0
            by_cases h1 : kd = 1
            · subst h1
              as_aux_lemma =>
                by_cases hle : 1 ≤ r.length
                · go_wp2_with fail
                  clear hR hF hZ hB hkc hnc
                  generalize hWg : wr.alloc (.cells #[.int .i64 1, .int .i64 nn] 32) = W0 at *
                  generalize wr.heap.size = gx at *
                  clear hWg
                  refine (got1_ok g d r _ hR0 hle hr100).mono ?_
                  rintro e w5 ⟨rfl, hR5, hf5⟩
                  have hF5 := hF0.frm hf5 (by omega)
                  have hZ5 := hZ0.frm hf5 (by omega)
                  have hX5 := hX0.frm hf5 (by omega)
                  have hB5 := below_frm hB0 hf5 hB0.size (fun k hk => by omega)
                  have hs5 := hf5.size
                  have hcx5 : w5.cell? ⟨gx, 0, none⟩ = some (.int .i64 1) := by have := hX5.cell 0; simpa using this
                  have hcz5 : w5.cell? ⟨gz, 1, none⟩ = some (.int .i64 1) := by have := hZ5.cell 1; simpa using this
                  go_wp2_with fail
                  refine (take_ok gs r 1 _ hF5 (by omega) (by omega) hr100).mono ?_
                  rintro e w6 ⟨rfl, hF6, hf6⟩
                  have hR6 := hR5.frm hf6 (by omega) (fun k hk => by have := Hd.out k hk; omega)
                  have hZ6 := hZ5.frm hf6 (by omega)
                  have hB6 := below_frm hB5 hf6 hB5.size (fun k hk => by omega)
                  have e1 : Int.toNat 1 = 1 := rfl
                  rw [e1] at hF6 ⊢
                  clear e1
                  have HRD : Hid (xb.drop (j + 1) = r.drop 1) := by rw [← HRJ.out, List.drop_drop]; rfl
                  have hjs : j + 1 ≤ m := by have := HLJ.out; omega
                  generalize r.take 1 = rt at *
                  have hl2 : (r.drop 1).length ≤ 100000 := by rw [List.length_drop]; omega
                  generalize r.drop 1 = r2 at *
                  have hqq : ∀ q, Rd (w6.drewN q) g d r2 := fun _ => hR6
                  have Hqq := hide hqq
                  clear hqq
                  have hcS : w6.cell? ⟨gs, 0, none⟩ = some (.string ⟨r2.toArray⟩) := by have := Blk.cell hF6 0; simpa using this
                  have hl100 : r2.length ≤ 100000 := by omega
                  go_wp2_with fail
                  go_quiet ((go_at_call 17; exact quiet_same (left_any g d r2 _ (Hqq.out _) hl100)))
                  go_wp2
                  go_roundw
                  case rel => exact ⟨k + 1, j + 1, by omega, by omega, hjs, by go_num, ⟨by rw [HRD.out]; exact hR6, by rw [HRD.out]; exact hF6, hZ6, below_drewN hB6 nq⟩⟩
                  case measure => simp [intOf]; omega
                · go_wp2_with fail
                  clear hR hF hZ hB hkc hnc
                  generalize hWg : wr.alloc (.cells #[.int .i64 1, .int .i64 nn] 32) = W0 at *
                  generalize wr.heap.size = gx at *
                  clear hWg
                  refine (got1_short g d r _ hR0 (by omega) hr100).mono ?_
                  rintro e w5 ⟨st, rfl, hb5⟩
                  have F5 : Frm (fun _ => False) W0 w5 := Frm.of_below hb5
                  have hR5 := hR0.frm F5 (fun h => h) (fun _ _ h => h)
                  have hF5 := hF0.frm F5 (fun h => h)
                  have hZ5 := hZ0.frm F5 (fun h => h)
                  have hX5 := hX0.frm F5 (fun h => h)
                  have hB5 := below_frm hB0 F5 hB0.size (fun k hk => hk.elim)
                  have hcx5 : w5.cell? ⟨gx, 0, none⟩ = some (.int .i64 1) := by have := hX5.cell 0; simpa using this
                  have hcz5 : w5.cell? ⟨gz, 1, none⟩ = some (.int .i64 1) := by have := hZ5.cell 1; simpa using this
                  go_wp2_with fail
                  refine (take_short gs r 1 _ hF5 (by omega)).mono ?_
                  rintro e w6 ⟨rfl, rfl⟩
                  have hqq : ∀ q, Rd (w5.drewN q) g d r := fun _ => hR5
                  have Hqq := hide hqq
                  clear hqq
                  have hcS : w5.cell? ⟨gs, 0, none⟩ = some (.string ⟨r.toArray⟩) := by have := Blk.cell hF5 0; simpa using this
                  have hl100 : r.length ≤ 100000 := by omega
                  go_wp2_with fail
                  go_quiet ((go_at_call 17; exact quiet_same (left_any g d r _ (Hqq.out _) hl100)))
                  go_wp2
                  go_roundw
                  case rel => exact ⟨k + 1, j, by omega, by omega, hj, by go_num, ⟨by rw [HRJ.out]; exact hR5, by rw [HRJ.out]; exact hF5, hZ5, below_drewN hB5 nq⟩⟩
                  case measure => simp [intOf]; omega
            by_cases h2 : kd = 2
            · subst h2
              as_aux_lemma =>
                by_cases hle : 2 ≤ r.length
                · go_wp2_with fail
                  clear hR hF hZ hB hkc hnc
                  generalize hWg : wr.alloc (.cells #[.int .i64 2, .int .i64 nn] 32) = W0 at *
                  generalize wr.heap.size = gx at *
                  clear hWg
                  refine (got2_ok g d r _ hR0 hle hr100).mono ?_
                  rintro e w5 ⟨rfl, hR5, hf5⟩
                  have hF5 := hF0.frm hf5 (by omega)
                  have hZ5 := hZ0.frm hf5 (by omega)
                  have hX5 := hX0.frm hf5 (by omega)
                  have hB5 := below_frm hB0 hf5 hB0.size (fun k hk => by omega)
                  have hs5 := hf5.size
                  have hcx5 : w5.cell? ⟨gx, 0, none⟩ = some (.int .i64 2) := by have := hX5.cell 0; simpa using this
                  have hcz5 : w5.cell? ⟨gz, 2, none⟩ = some (.int .i64 2) := by have := hZ5.cell 2; simpa using this
                  go_wp2_with fail
                  refine (take_ok gs r 2 _ hF5 (by omega) (by omega) hr100).mono ?_
                  rintro e w6 ⟨rfl, hF6, hf6⟩
                  have hR6 := hR5.frm hf6 (by omega) (fun k hk => by have := Hd.out k hk; omega)
                  have hZ6 := hZ5.frm hf6 (by omega)
                  have hB6 := below_frm hB5 hf6 hB5.size (fun k hk => by omega)
                  have e2 : Int.toNat 2 = 2 := rfl
                  rw [e2] at hF6 ⊢
                  clear e2
                  have HRD : Hid (xb.drop (j + 2) = r.drop 2) := by rw [← HRJ.out, List.drop_drop]; rfl
                  have hjs : j + 2 ≤ m := by have := HLJ.out; omega
                  generalize r.take 2 = rt at *
                  have hl2 : (r.drop 2).length ≤ 100000 := by rw [List.length_drop]; omega
                  generalize r.drop 2 = r2 at *
                  have hqq : ∀ q, Rd (w6.drewN q) g d r2 := fun _ => hR6
                  have Hqq := hide hqq
                  clear hqq
                  have hcS : w6.cell? ⟨gs, 0, none⟩ = some (.string ⟨r2.toArray⟩) := by have := Blk.cell hF6 0; simpa using this
                  have hl100 : r2.length ≤ 100000 := by omega
                  go_wp2_with fail
                  go_quiet ((go_at_call 17; exact quiet_same (left_any g d r2 _ (Hqq.out _) hl100)))
                  go_wp2
                  go_roundw
                  case rel => exact ⟨k + 1, j + 2, by omega, by omega, hjs, by go_num, ⟨by rw [HRD.out]; exact hR6, by rw [HRD.out]; exact hF6, hZ6, below_drewN hB6 nq⟩⟩
                  case measure => simp [intOf]; omega
                · go_wp2_with fail
                  clear hR hF hZ hB hkc hnc
                  generalize hWg : wr.alloc (.cells #[.int .i64 2, .int .i64 nn] 32) = W0 at *
                  generalize wr.heap.size = gx at *
                  clear hWg
                  refine (got2_short g d r _ hR0 (by omega) hr100).mono ?_
                  rintro e w5 ⟨st, rfl, hb5⟩
                  have F5 : Frm (fun _ => False) W0 w5 := Frm.of_below hb5
                  have hR5 := hR0.frm F5 (fun h => h) (fun _ _ h => h)
                  have hF5 := hF0.frm F5 (fun h => h)
                  have hZ5 := hZ0.frm F5 (fun h => h)
                  have hX5 := hX0.frm F5 (fun h => h)
                  have hB5 := below_frm hB0 F5 hB0.size (fun k hk => hk.elim)
                  have hcx5 : w5.cell? ⟨gx, 0, none⟩ = some (.int .i64 2) := by have := hX5.cell 0; simpa using this
                  have hcz5 : w5.cell? ⟨gz, 2, none⟩ = some (.int .i64 2) := by have := hZ5.cell 2; simpa using this
                  go_wp2_with fail
                  refine (take_short gs r 2 _ hF5 (by omega)).mono ?_
                  rintro e w6 ⟨rfl, rfl⟩
                  have hqq : ∀ q, Rd (w5.drewN q) g d r := fun _ => hR5
                  have Hqq := hide hqq
                  clear hqq
                  have hcS : w5.cell? ⟨gs, 0, none⟩ = some (.string ⟨r.toArray⟩) := by have := Blk.cell hF5 0; simpa using this
                  have hl100 : r.length ≤ 100000 := by omega
                  go_wp2_with fail
                  go_quiet ((go_at_call 17; exact quiet_same (left_any g d r _ (Hqq.out _) hl100)))
                  go_wp2
                  go_roundw
                  case rel => exact ⟨k + 1, j, by omega, by omega, hj, by go_num, ⟨by rw [HRJ.out]; exact hR5, by rw [HRJ.out]; exact hF5, hZ5, below_drewN hB5 nq⟩⟩
                  case measure => simp [intOf]; omega
            by_cases h3 : kd = 3
            · subst h3
              as_aux_lemma =>
                by_cases hle : 4 ≤ r.length
                · go_wp2_with fail
                  clear hR hF hZ hB hkc hnc
                  generalize hWg : wr.alloc (.cells #[.int .i64 3, .int .i64 nn] 32) = W0 at *
                  generalize wr.heap.size = gx at *
                  clear hWg
                  refine (got3_ok g d r _ hR0 hle hr100).mono ?_
                  rintro e w5 ⟨rfl, hR5, hf5⟩
                  have hF5 := hF0.frm hf5 (by omega)
                  have hZ5 := hZ0.frm hf5 (by omega)
                  have hX5 := hX0.frm hf5 (by omega)
                  have hB5 := below_frm hB0 hf5 hB0.size (fun k hk => by omega)
                  have hs5 := hf5.size
                  have hcx5 : w5.cell? ⟨gx, 0, none⟩ = some (.int .i64 3) := by have := hX5.cell 0; simpa using this
                  have hcz5 : w5.cell? ⟨gz, 3, none⟩ = some (.int .i64 4) := by have := hZ5.cell 3; simpa using this
                  go_wp2_with fail
                  refine (take_ok gs r 4 _ hF5 (by omega) (by omega) hr100).mono ?_
                  rintro e w6 ⟨rfl, hF6, hf6⟩
                  have hR6 := hR5.frm hf6 (by omega) (fun k hk => by have := Hd.out k hk; omega)
                  have hZ6 := hZ5.frm hf6 (by omega)
                  have hB6 := below_frm hB5 hf6 hB5.size (fun k hk => by omega)
                  have e4 : Int.toNat 4 = 4 := rfl
                  rw [e4] at hF6 ⊢
                  clear e4
                  have HRD : Hid (xb.drop (j + 4) = r.drop 4) := by rw [← HRJ.out, List.drop_drop]; rfl
                  have hjs : j + 4 ≤ m := by have := HLJ.out; omega
                  generalize r.take 4 = rt at *
                  have hl2 : (r.drop 4).length ≤ 100000 := by rw [List.length_drop]; omega
                  generalize r.drop 4 = r2 at *
                  have hqq : ∀ q, Rd (w6.drewN q) g d r2 := fun _ => hR6
                  have Hqq := hide hqq
                  clear hqq
                  have hcS : w6.cell? ⟨gs, 0, none⟩ = some (.string ⟨r2.toArray⟩) := by have := Blk.cell hF6 0; simpa using this
                  have hl100 : r2.length ≤ 100000 := by omega
                  go_wp2_with fail
                  go_quiet ((go_at_call 17; exact quiet_same (left_any g d r2 _ (Hqq.out _) hl100)))
                  go_wp2
                  go_roundw
                  case rel => exact ⟨k + 1, j + 4, by omega, by omega, hjs, by go_num, ⟨by rw [HRD.out]; exact hR6, by rw [HRD.out]; exact hF6, hZ6, below_drewN hB6 nq⟩⟩
                  case measure => simp [intOf]; omega
                · go_wp2_with fail
                  clear hR hF hZ hB hkc hnc
                  generalize hWg : wr.alloc (.cells #[.int .i64 3, .int .i64 nn] 32) = W0 at *
                  generalize wr.heap.size = gx at *
                  clear hWg
                  refine (got3_short g d r _ hR0 (by omega) hr100).mono ?_
                  rintro e w5 ⟨st, rfl, hb5⟩
                  have F5 : Frm (fun _ => False) W0 w5 := Frm.of_below hb5
                  have hR5 := hR0.frm F5 (fun h => h) (fun _ _ h => h)
                  have hF5 := hF0.frm F5 (fun h => h)
                  have hZ5 := hZ0.frm F5 (fun h => h)
                  have hX5 := hX0.frm F5 (fun h => h)
                  have hB5 := below_frm hB0 F5 hB0.size (fun k hk => hk.elim)
                  have hcx5 : w5.cell? ⟨gx, 0, none⟩ = some (.int .i64 3) := by have := hX5.cell 0; simpa using this
                  have hcz5 : w5.cell? ⟨gz, 3, none⟩ = some (.int .i64 4) := by have := hZ5.cell 3; simpa using this
                  go_wp2_with fail
                  refine (take_short gs r 4 _ hF5 (by omega)).mono ?_
                  rintro e w6 ⟨rfl, rfl⟩
                  have hqq : ∀ q, Rd (w5.drewN q) g d r := fun _ => hR5
                  have Hqq := hide hqq
                  clear hqq
                  have hcS : w5.cell? ⟨gs, 0, none⟩ = some (.string ⟨r.toArray⟩) := by have := Blk.cell hF5 0; simpa using this
                  have hl100 : r.length ≤ 100000 := by omega
                  go_wp2_with fail
                  go_quiet ((go_at_call 17; exact quiet_same (left_any g d r _ (Hqq.out _) hl100)))
                  go_wp2
                  go_roundw
                  case rel => exact ⟨k + 1, j, by omega, by omega, hj, by go_num, ⟨by rw [HRJ.out]; exact hR5, by rw [HRJ.out]; exact hF5, hZ5, below_drewN hB5 nq⟩⟩
                  case measure => simp [intOf]; omega
            by_cases h4 : kd = 4
            · subst h4
              as_aux_lemma =>
                by_cases hle : 8 ≤ r.length
                · go_wp2_with fail
                  clear hR hF hZ hB hkc hnc
                  generalize hWg : wr.alloc (.cells #[.int .i64 4, .int .i64 nn] 32) = W0 at *
                  generalize wr.heap.size = gx at *
                  clear hWg
                  refine (got4_ok g d r _ hR0 hle hr100).mono ?_
                  rintro e w5 ⟨rfl, hR5, hf5⟩
                  have hF5 := hF0.frm hf5 (by omega)
                  have hZ5 := hZ0.frm hf5 (by omega)
                  have hX5 := hX0.frm hf5 (by omega)
                  have hB5 := below_frm hB0 hf5 hB0.size (fun k hk => by omega)
                  have hs5 := hf5.size
                  have hcx5 : w5.cell? ⟨gx, 0, none⟩ = some (.int .i64 4) := by have := hX5.cell 0; simpa using this
                  have hcz5 : w5.cell? ⟨gz, 4, none⟩ = some (.int .i64 8) := by have := hZ5.cell 4; simpa using this
                  go_wp2_with fail
                  refine (take_ok gs r 8 _ hF5 (by omega) (by omega) hr100).mono ?_
                  rintro e w6 ⟨rfl, hF6, hf6⟩
                  have hR6 := hR5.frm hf6 (by omega) (fun k hk => by have := Hd.out k hk; omega)
                  have hZ6 := hZ5.frm hf6 (by omega)
                  have hB6 := below_frm hB5 hf6 hB5.size (fun k hk => by omega)
                  have e8 : Int.toNat 8 = 8 := rfl
                  rw [e8] at hF6 ⊢
                  clear e8
                  have HRD : Hid (xb.drop (j + 8) = r.drop 8) := by rw [← HRJ.out, List.drop_drop]; rfl
                  have hjs : j + 8 ≤ m := by have := HLJ.out; omega
                  generalize r.take 8 = rt at *
                  have hl2 : (r.drop 8).length ≤ 100000 := by rw [List.length_drop]; omega
                  generalize r.drop 8 = r2 at *
                  have hqq : ∀ q, Rd (w6.drewN q) g d r2 := fun _ => hR6
                  have Hqq := hide hqq
                  clear hqq
                  have hcS : w6.cell? ⟨gs, 0, none⟩ = some (.string ⟨r2.toArray⟩) := by have := Blk.cell hF6 0; simpa using this
                  have hl100 : r2.length ≤ 100000 := by omega
                  go_wp2_with fail
                  go_quiet ((go_at_call 17; exact quiet_same (left_any g d r2 _ (Hqq.out _) hl100)))
                  go_wp2
                  go_roundw
                  case rel => exact ⟨k + 1, j + 8, by omega, by omega, hjs, by go_num, ⟨by rw [HRD.out]; exact hR6, by rw [HRD.out]; exact hF6, hZ6, below_drewN hB6 nq⟩⟩
                  case measure => simp [intOf]; omega
                · go_wp2_with fail
                  clear hR hF hZ hB hkc hnc
                  generalize hWg : wr.alloc (.cells #[.int .i64 4, .int .i64 nn] 32) = W0 at *
                  generalize wr.heap.size = gx at *
                  clear hWg
                  refine (got4_short g d r _ hR0 (by omega) hr100).mono ?_
                  rintro e w5 ⟨st, rfl, hb5⟩
                  have F5 : Frm (fun _ => False) W0 w5 := Frm.of_below hb5
                  have hR5 := hR0.frm F5 (fun h => h) (fun _ _ h => h)
                  have hF5 := hF0.frm F5 (fun h => h)
                  have hZ5 := hZ0.frm F5 (fun h => h)
                  have hX5 := hX0.frm F5 (fun h => h)
                  have hB5 := below_frm hB0 F5 hB0.size (fun k hk => hk.elim)
                  have hcx5 : w5.cell? ⟨gx, 0, none⟩ = some (.int .i64 4) := by have := hX5.cell 0; simpa using this
                  have hcz5 : w5.cell? ⟨gz, 4, none⟩ = some (.int .i64 8) := by have := hZ5.cell 4; simpa using this
                  go_wp2_with fail
                  refine (take_short gs r 8 _ hF5 (by omega)).mono ?_
                  rintro e w6 ⟨rfl, rfl⟩
                  have hqq : ∀ q, Rd (w5.drewN q) g d r := fun _ => hR5
                  have Hqq := hide hqq
                  clear hqq
                  have hcS : w5.cell? ⟨gs, 0, none⟩ = some (.string ⟨r.toArray⟩) := by have := Blk.cell hF5 0; simpa using this
                  have hl100 : r.length ≤ 100000 := by omega
                  go_wp2_with fail
                  go_quiet ((go_at_call 17; exact quiet_same (left_any g d r _ (Hqq.out _) hl100)))
                  go_wp2
                  go_roundw
                  case rel => exact ⟨k + 1, j, by omega, by omega, hj, by go_num, ⟨by rw [HRJ.out]; exact hR5, by rw [HRJ.out]; exact hF5, hZ5, below_drewN hB5 nq⟩⟩
                  case measure => simp [intOf]; omega
            have hk1' : (kd == 1) = false := by simp; omega
            have hk2' : (kd == 2) = false := by simp; omega
            have hk3' : (kd == 3) = false := by simp; omega
            have hk4' : (kd == 4) = false := by simp; omega
            by_cases h5 : kd = 5
            · subst h5
              as_aux_lemma =>
                by_cases hneg : nn < 0
                · go_wp2_with fail
                  clear hR hF hZ hB hkc hnc
                  generalize hWg : wr.alloc (.cells #[.int .i64 5, .int .i64 nn] 32) = W0 at *
                  generalize wr.heap.size = gx at *
                  clear hWg
                  refine (bytes_neg g nn _ hneg).mono ?_
                  rintro e w5 ⟨rfl, rfl⟩
                  have hcx5 : W0.cell? ⟨gx, 0, none⟩ = some (.int .i64 5) := by have := hX0.cell 0; simpa using this
                  have hcy5 : W0.cell? ⟨gx, 1, none⟩ = some (.int .i64 nn) := by have := hX0.cell 1; simpa using this
                  go_wp2_with fail
                  refine (take_neg gs nn _ hneg).mono ?_
                  rintro e w5 ⟨rfl, rfl⟩
                  have hcv := conv_rds (P := Try.prog) W0 22 9 5 Try.underlying22 Try.underlying5 Try.underlying9 none 0 0 [] ⟨rfl, fun h => by omega⟩
                  go_wp2_with fail
                  go_loopw [23] (fun i wr3 => ∃ q : Nat, q ≤ 0 ∧ i = .int .i64 q ∧ OwnAny wr3 W0.heap.size 5 none 0 0 ∧ Frm (fun x => W0.heap.size ≤ x) W0 wr3) (fun i _ => 0 - (intOf i).toNat)
                  case atStart => exact ⟨0, by omega, rfl, ⟨[], rfl, .inl ⟨rfl, rfl⟩⟩, Frm.refl _ _⟩
                  case round =>
                    obtain ⟨q, hq, rfl, hOq, hFq⟩ := hrel
                    by_cases hlq : q < 0
                    · omega
                    · have hR9 := hR0.frm hFq (by omega) (fun k hk => by have := Hd.out k hk; omega)
                      have hF9 := hF0.frm hFq (by omega)
                      have hZ9 := hZ0.frm hFq (by omega)
                      have hB9 := below_frm hB0 hFq hB0.size (fun k hk => by omega)
                      have hqq : ∀ q, Rd (wr.drewN q) g d r := fun _ => hR9
                      have Hqq := hide hqq
                      clear hqq
                      have hcS : wr.cell? ⟨gs, 0, none⟩ = some (.string ⟨r.toArray⟩) := by have := Blk.cell hF9 0; simpa using this
                      have hl100 : r.length ≤ 100000 := by omega
                      go_wp2_with fail
                      go_quiet ((go_at_call 17; exact quiet_same (left_any g d r _ (Hqq.out _) hl100)))
                      go_wp2
                      go_roundw
                      case rel => exact ⟨k + 1, j, by omega, by omega, hj, by go_num, ⟨by rw [HRJ.out]; exact hR9, by rw [HRJ.out]; exact hF9, hZ9, below_drewN hB9 nq⟩⟩
                      case measure => simp [intOf]; omega

                · by_cases hle : nn ≤ r.length
                  · go_wp2_with fail
                    clear hR hF hZ hB hkc hnc
                    generalize hWg : wr.alloc (.cells #[.int .i64 5, .int .i64 nn] 32) = W0 at *
                    generalize wr.heap.size = gx at *
                    clear hWg
                    refine (bytes_ok g d r nn _ hR0 (by omega) hle hr100).mono ?_
                    rintro e w5 ⟨A5, c5, rfl, hown5, hR5, hf5⟩
                    have hF5 := hF0.frm hf5 (by omega)
                    have hZ5 := hZ0.frm hf5 (by omega)
                    have hX5 := hX0.frm hf5 (by omega)
                    have hB5 := below_frm hB0 hf5 hB0.size (fun k hk => by omega)
                    have hs5 := hf5.size
                    have hcy5 : w5.cell? ⟨gx, 1, none⟩ = some (.int .i64 nn) := by have := hX5.cell 1; simpa using this
                    go_wp2_with fail
                    refine (take_ok gs r nn _ hF5 (by omega) hle hr100).mono ?_
                    rintro e w6 ⟨rfl, hF6, hf6⟩
                    have hown6 := own_frm hown5 hf6 (fun k hk => by have := (hown5.lt k hk).1; omega)
                    have hR6 := hR5.frm hf6 (by omega) (fun k hk => by have := Hd.out k hk; omega)
                    have hZ6 := hZ5.frm hf6 (by omega)
                    have hB6 := below_frm hB5 hf6 hB5.size (fun k hk => by omega)
                    have hcv6 := conv_rds (P := Try.prog) w6 22 9 5 Try.underlying22 Try.underlying5 Try.underlying9 A5 _ c5 _ (Seg.of_own hown6).rds
                    have HRD : Hid (xb.drop (j + nn.toNat) = r.drop nn.toNat) := by rw [← HRJ.out, List.drop_drop]; rfl
                    have hjs : j + nn.toNat ≤ m := by have := HLJ.out; omega
                    have hl2 : (r.drop nn.toNat).length ≤ 100000 := by rw [List.length_drop]; omega
                    have hOA : OwnAny w6 W0.heap.size 5 A5 nn.toNat c5 := ⟨_, hown6⟩
                    have hnl : nn.toNat ≤ 100000 := by omega
                    clear hown5 hown6
                    generalize r.take nn.toNat = rt at *
                    generalize r.drop nn.toNat = r2 at *
                    generalize nn.toNat = np at *
                    go_wp2_with fail
                    go_loopw [23] (fun i wr3 => ∃ q : Nat, q ≤ np ∧ i = .int .i64 q ∧ OwnAny wr3 W0.heap.size 5 A5 np c5 ∧ Frm (fun x => W0.heap.size ≤ x) w6 wr3) (fun i _ => np - (intOf i).toNat)
                    case atStart => exact ⟨0, by omega, rfl, hOA, Frm.refl _ _⟩
                    case round =>
                      obtain ⟨q, hq, rfl, hOq, hFq⟩ := hrel
                      by_cases hlq : q < np
                      · obtain ⟨g0, v0, hA0, hb0, hg0, hcq, hfq, hset⟩ := hOq.at hlq
                        have HA0 := hide hA0
                        have HSET := hide hset
                        have hq0 : (0 : Int) ≤ (q : Int) := by omega
                        have hqm : (q : Int) < ((np : Nat) : Int) := by omega
                        have had : (⟨g0, 0, none⟩ : Addr).add ((q : Int)).toNat = ⟨g0, q, none⟩ := by rw [Int.toNat_natCast]; exact add_zero_off g0 q
                        have HAD := hide had
                        clear hA0 hset had
                        go_wp2_with (refine wpl_idx one_u8 rfl (.tmp 156) (.tmp 157) rfl _ A5 (np) c5 (q : Int) rfl rfl ⟨g0, 0, none⟩ ⟨g0, q, none⟩ HA0.out hq0 hqm HAD.out ?_)
                        go_roundw
                        case rel => exact ⟨q + 1, by omega, by go_num, HSET.out _, hFq.trans (Frm.setCell _ _ _ (fun x => x = g0) rfl) (fun i _ hi => by omega)⟩
                        case measure => simp [intOf]; omega
                      · have hR9 := hR6.frm hFq (by omega) (fun k hk => by have := Hd.out k hk; omega)
                        have hF9 := hF6.frm hFq (by omega)
                        have hZ9 := hZ6.frm hFq (by omega)
                        have hB9 := below_frm hB6 hFq hB6.size (fun k hk => by omega)
                        have hqq : ∀ q, Rd (wr.drewN q) g d r2 := fun _ => hR9
                        have Hqq := hide hqq
                        clear hqq
                        have hcS : wr.cell? ⟨gs, 0, none⟩ = some (.string ⟨r2.toArray⟩) := by have := Blk.cell hF9 0; simpa using this
                        have hl100 : r2.length ≤ 100000 := by omega
                        go_wp2_with fail
                        go_quiet ((go_at_call 17; exact quiet_same (left_any g d r2 _ (Hqq.out _) hl100)))
                        go_wp2
                        go_roundw
                        case rel => exact ⟨k + 1, j + np, by omega, by omega, hjs, by go_num, ⟨by rw [HRD.out]; exact hR9, by rw [HRD.out]; exact hF9, hZ9, below_drewN hB9 nq⟩⟩
                        case measure => simp [intOf]; omega

                  · go_wp2_with fail
                    clear hR hF hZ hB hkc hnc
                    generalize hWg : wr.alloc (.cells #[.int .i64 5, .int .i64 nn] 32) = W0 at *
                    generalize wr.heap.size = gx at *
                    clear hWg
                    refine (bytes_short g d r nn _ hR0 (by omega) hr100).mono ?_
                    rintro e w5 ⟨rfl, rfl⟩
                    have hcy5 : W0.cell? ⟨gx, 1, none⟩ = some (.int .i64 nn) := by have := hX0.cell 1; simpa using this
                    go_wp2_with fail
                    refine (take_short gs r nn _ hF0 (by omega)).mono ?_
                    rintro e w5 ⟨rfl, rfl⟩
                    have hcv := conv_rds (P := Try.prog) W0 22 9 5 Try.underlying22 Try.underlying5 Try.underlying9 none 0 0 [] ⟨rfl, fun h => by omega⟩
                    go_wp2_with fail
                    go_loopw [23] (fun i wr3 => ∃ q : Nat, q ≤ 0 ∧ i = .int .i64 q ∧ OwnAny wr3 W0.heap.size 5 none 0 0 ∧ Frm (fun x => W0.heap.size ≤ x) W0 wr3) (fun i _ => 0 - (intOf i).toNat)
                    case atStart => exact ⟨0, by omega, rfl, ⟨[], rfl, .inl ⟨rfl, rfl⟩⟩, Frm.refl _ _⟩
                    case round =>
                      obtain ⟨q, hq, rfl, hOq, hFq⟩ := hrel
                      by_cases hlq : q < 0
                      · omega
                      · have hR9 := hR0.frm hFq (by omega) (fun k hk => by have := Hd.out k hk; omega)
                        have hF9 := hF0.frm hFq (by omega)
                        have hZ9 := hZ0.frm hFq (by omega)
                        have hB9 := below_frm hB0 hFq hB0.size (fun k hk => by omega)
                        have hqq : ∀ q, Rd (wr.drewN q) g d r := fun _ => hR9
                        have Hqq := hide hqq
                        clear hqq
                        have hcS : wr.cell? ⟨gs, 0, none⟩ = some (.string ⟨r.toArray⟩) := by have := Blk.cell hF9 0; simpa using this
                        have hl100 : r.length ≤ 100000 := by omega
                        go_wp2_with fail
                        go_quiet ((go_at_call 17; exact quiet_same (left_any g d r _ (Hqq.out _) hl100)))
                        go_wp2
                        go_roundw
                        case rel => exact ⟨k + 1, j, by omega, by omega, hj, by go_num, ⟨by rw [HRJ.out]; exact hR9, by rw [HRJ.out]; exact hF9, hZ9, below_drewN hB9 nq⟩⟩
                        case measure => simp [intOf]; omega
            by_cases h6 : kd = 6
            · subst h6
              as_aux_lemma =>
                go_wp2_with fail
                clear hR hF hZ hB hkc hnc
                generalize hWg : wr.alloc (.cells #[.int .i64 6, .int .i64 nn] 32) = W0 at *
                generalize wr.heap.size = gx at *
                clear hWg
                refine (rest_any g d r _ hR0 hr100).mono ?_
                rintro e w5 ⟨A5, c5, rfl, hown5, hR5, hf5⟩
                have hF5 := hF0.frm hf5 (by omega)
                have hZ5 := hZ0.frm hf5 (by omega)
                have hB5 := below_frm hB0 hf5 hB0.size (fun k hk => by omega)
                have hs5 := hf5.size
                have hcS5 : w5.cell? ⟨gs, 0, none⟩ = some (.string ⟨r.toArray⟩) := by have := Blk.cell hF5 0; simpa using this
                go_wp2_with fail
                refine (take_ok gs r r.length _ hF5 (by omega) (by omega) hr100).mono ?_
                rintro e w6 ⟨rfl, hF6, hf6⟩
                rw [Int.toNat_natCast, List.take_length]
                rw [Int.toNat_natCast, List.drop_length] at hF6
                have hown6 := own_frm hown5 hf6 (fun k hk => by have := (hown5.lt k hk).1; omega)
                have hR6 := hR5.frm hf6 (by omega) (fun k hk => by have := Hd.out k hk; omega)
                have hZ6 := hZ5.frm hf6 (by omega)
                have hB6 := below_frm hB5 hf6 hB5.size (fun k hk => by omega)
                have hcv6 := conv_rds (P := Try.prog) w6 22 9 5 Try.underlying22 Try.underlying5 Try.underlying9 A5 _ c5 _ (Seg.of_own hown6).rds
                have HRD : Hid (xb.drop m = []) := List.drop_eq_nil_of_le (by have := HL.out; omega)
                have hOA : OwnAny w6 W0.heap.size 5 A5 r.length c5 := ⟨_, hown6⟩
                clear hown5 hown6
                go_wp2_with fail
                go_loopw [23] (fun i wr3 => ∃ q : Nat, q ≤ r.length ∧ i = .int .i64 q ∧ OwnAny wr3 W0.heap.size 5 A5 r.length c5 ∧ Frm (fun x => W0.heap.size ≤ x) w6 wr3) (fun i _ => r.length - (intOf i).toNat)
                case atStart => exact ⟨0, by omega, rfl, hOA, Frm.refl _ _⟩
                case round =>
                  obtain ⟨q, hq, rfl, hOq, hFq⟩ := hrel
                  by_cases hlq : q < r.length
                  · obtain ⟨g0, v0, hA0, hb0, hg0, hcq, hfq, hset⟩ := hOq.at hlq
                    have HA0 := hide hA0
                    have HSET := hide hset
                    have hq0 : (0 : Int) ≤ (q : Int) := by omega
                    have hqm : (q : Int) < ((r.length : Nat) : Int) := by omega
                    have had : (⟨g0, 0, none⟩ : Addr).add ((q : Int)).toNat = ⟨g0, q, none⟩ := by rw [Int.toNat_natCast]; exact add_zero_off g0 q
                    have HAD := hide had
                    clear hA0 hset had
                    go_wp2_with (refine wpl_idx one_u8 rfl (.tmp 156) (.tmp 157) rfl _ A5 (r.length) c5 (q : Int) rfl rfl ⟨g0, 0, none⟩ ⟨g0, q, none⟩ HA0.out hq0 hqm HAD.out ?_)
                    go_roundw
                    case rel => exact ⟨q + 1, by omega, by go_num, HSET.out _, hFq.trans (Frm.setCell _ _ _ (fun x => x = g0) rfl) (fun i _ hi => by omega)⟩
                    case measure => simp [intOf]; omega
                  · have hR9 := hR6.frm hFq (by omega) (fun k hk => by have := Hd.out k hk; omega)
                    have hF9 := hF6.frm hFq (by omega)
                    have hZ9 := hZ6.frm hFq (by omega)
                    have hB9 := below_frm hB6 hFq hB6.size (fun k hk => by omega)
                    have hqq : ∀ q, Rd (wr.drewN q) g d ([] : List UInt8) := fun _ => hR9
                    have Hqq := hide hqq
                    clear hqq
                    have hcS : wr.cell? ⟨gs, 0, none⟩ = some (.string ⟨([] : List UInt8).toArray⟩) := by have := Blk.cell hF9 0; simpa using this
                    have hl100 : ([] : List UInt8).length ≤ 100000 := by decide
                    go_wp2_with fail
                    go_quiet ((go_at_call 17; exact quiet_same (left_any g d ([] : List UInt8) _ (Hqq.out _) hl100)))
                    go_wp2
                    go_roundw
                    case rel => exact ⟨k + 1, m, by omega, by omega, Nat.le_refl m, by go_num, ⟨by rw [HRD.out]; exact hR9, by rw [HRD.out]; exact hF9, hZ9, below_drewN hB9 nq⟩⟩
                    case measure => simp [intOf]; omega
            by_cases h7 : kd = 7
            · subst h7
              as_aux_lemma =>
                have hqq : ∀ q, Rd ((wr.alloc (.cells #[.int .i64 7, .int .i64 nn] 32)).drewN q) g d r := fun _ => hR0
                have Hqq0 := hide hqq
                clear hqq
                by_cases hl0 : r.length = 0
                · obtain rfl : r = [] := List.eq_nil_of_length_eq_zero hl0
                  have hz : errLeft [] = 0 := rfl
                  go_wp2_with fail
                  clear hR hF hZ hB hkc hnc
                  generalize hWg : wr.alloc (.cells #[.int .i64 7, .int .i64 nn] 32) = W0 at *
                  generalize wr.heap.size = gx at *
                  clear hWg
                  have hcS0 : W0.cell? ⟨gs, 0, none⟩ = some (.string ⟨#[]⟩) := by have := Blk.cell hF0 0; simpa using this
                  go_quiet ((go_at_call 16; exact quiet_same (done_any g d [] _ (Hqq0.out _) nil100)))
                  have hR7 : Rd (W0.drewN nq) g d ([] : List UInt8) := hR0
                  have hF7 : Rf (W0.drewN nq) gs ([] : List UInt8) := hF0
                  have hZ7 := Blk.frm hZ0 ((Frm.refl (fun _ => False) W0).drewN nq) (fun h => h)
                  have hB7 := below_drewN hB0 nq
                  generalize W0.drewN nq = W7 at *
                  have hqq : ∀ q, Rd (W7.drewN q) g d ([] : List UInt8) := fun _ => hR7
                  have Hqq := hide hqq
                  clear hqq
                  have hcS : W7.cell? ⟨gs, 0, none⟩ = some (.string ⟨([] : List UInt8).toArray⟩) := by have := Blk.cell hF7 0; simpa using this
                  have hl100 : ([] : List UInt8).length ≤ 100000 := by decide
                  go_wp2_with fail
                  go_quiet ((go_at_call 17; exact quiet_same (left_any g d ([] : List UInt8) _ (Hqq.out _) hl100)))
                  go_wp2
                  go_roundw
                  case rel => exact ⟨k + 1, j, by omega, by omega, hj, by go_num, ⟨by rw [HRJ.out]; exact hR7, by rw [HRJ.out]; exact hF7, hZ7, below_drewN hB7 nq⟩⟩
                  case measure => simp [intOf]; omega

                · have hz : errLeft r = 3 := by unfold errLeft; rw [if_neg hl0]
                  have hie : r.isEmpty = false := by
                    cases r with
                    | nil => exact absurd rfl hl0
                    | cons _ _ => rfl
                  go_wp2_with fail
                  clear hR hF hZ hB hkc hnc
                  generalize hWg : wr.alloc (.cells #[.int .i64 7, .int .i64 nn] 32) = W0 at *
                  generalize wr.heap.size = gx at *
                  clear hWg
                  have hcS0 : W0.cell? ⟨gs, 0, none⟩ = some (.string ⟨r.toArray⟩) := by have := Blk.cell hF0 0; simpa using this
                  go_quiet ((go_at_call 16; exact quiet_same (done_any g d r _ (Hqq0.out _) hr100)))
                  have hR7 : Rd (W0.drewN nq) g d r := hR0
                  have hF7 : Rf (W0.drewN nq) gs r := hF0
                  have hZ7 := Blk.frm hZ0 ((Frm.refl (fun _ => False) W0).drewN nq) (fun h => h)
                  have hB7 := below_drewN hB0 nq
                  generalize W0.drewN nq = W7 at *
                  have hqq : ∀ q, Rd (W7.drewN q) g d r := fun _ => hR7
                  have Hqq := hide hqq
                  clear hqq
                  have hcS : W7.cell? ⟨gs, 0, none⟩ = some (.string ⟨r.toArray⟩) := by have := Blk.cell hF7 0; simpa using this
                  have hl100 : r.length ≤ 100000 := by omega
                  go_wp2_with fail
                  go_quiet ((go_at_call 17; exact quiet_same (left_any g d r _ (Hqq.out _) hl100)))
                  go_wp2
                  go_roundw
                  case rel => exact ⟨k + 1, j, by omega, by omega, hj, by go_num, ⟨by rw [HRJ.out]; exact hR7, by rw [HRJ.out]; exact hF7, hZ7, below_drewN hB7 nq⟩⟩
                  case measure => simp [intOf]; omega
            have hk5' : (kd == 5) = false := by simp; omega
            have hk6' : (kd == 6) = false := by simp; omega
            have hk7' : (kd == 7) = false := by simp; omega
            as_aux_lemma =>
              go_wp2_with fail
              clear hR hF hZ hB hkc hnc
              generalize hWg : wr.alloc (.cells #[.int .i64 kd, .int .i64 nn] 32) = W0 at *
              generalize wr.heap.size = gx at *
              clear hWg
              have hqq : ∀ q, Rd (W0.drewN q) g d r := fun _ => hR0
              have Hqq := hide hqq
              clear hqq
              have hcS : W0.cell? ⟨gs, 0, none⟩ = some (.string ⟨r.toArray⟩) := by have := Blk.cell hF0 0; simpa using this
              have hl100 : r.length ≤ 100000 := by omega
              go_quiet ((go_at_call 17; exact quiet_same (left_any g d r _ (Hqq.out _) hl100)))
              go_wp2
              go_roundw
              case rel => exact ⟨k + 1, j, by omega, by omega, hj, by go_num, ⟨by rw [HRJ.out]; exact hR0, by rw [HRJ.out]; exact hF0, hZ0, below_drewN hB0 nq⟩⟩
              case measure => simp [intOf]; omega
          · have hq2 : decide ((k : Int) < 50) = false := by simp; omega
            have hq1 : decide ((k : Int) < (len1 : Int)) = true := by simp; omega
            as_aux_lemma =>
              have hRD : Rd wr.drew g d r := hR
              have hFD : Rf wr.drew gs r := hF
              have hcS : wr.drew.cell? ⟨gs, 0, none⟩ = some (.string ⟨r.toArray⟩) := by have := Blk.cell hFD 0; simpa using this
              go_wp2_with fail
              refine wp_region_held_drew (S := fun W => W.cell? ⟨gs, 0, none⟩ = some (.string ⟨r.toArray⟩)) (by kernel_rfl) (hcS) ?_
              intro hHeld
              refine wpAnyH_take (i := 0) (v := ?v1) rfl (by kernel_rfl) (by kernel_rfl) (by kernel_rfl) (fun _ _ _ h => h) (Or.inl ⟨by rfl, ?hy1⟩) (by assumption) ?rest1
              case hy1 => (intro w hSw; (try dsimp only at hSw); go_simp; try with_reducible rfl)
              try simp only [Act.put, List.getElem_toArray, List.getElem_cons_zero, List.setIfInBounds_toArray, List.set_cons_zero, List.set_cons_succ]
              refine wpAnyH_take (i := 1) (v := ?v2) rfl (by kernel_rfl) (by kernel_rfl) (by kernel_rfl) (fun _ _ _ h => h) (Or.inl ⟨by rfl, ?hy2⟩) (by assumption) ?rest2
              case hy2 => (intro w hSw; (try dsimp only at hSw); go_simp; try with_reducible rfl)
              try simp only [Act.put, List.getElem_toArray, List.getElem_cons_zero, List.getElem_cons_succ, List.setIfInBounds_toArray, List.set_cons_zero, List.set_cons_succ]
              refine wpAnyH_take (i := 2) (v := ?v3) rfl (by kernel_rfl) (by kernel_rfl) (by kernel_rfl) (fun _ _ _ h => h) (Or.inl ⟨by rfl, ?hy3⟩) (by assumption) ?rest3
              case hy3 => (intro w hSw; (try dsimp only at hSw); go_simp; try with_reducible rfl)
              try simp only [Act.put, List.getElem_toArray, List.getElem_cons_zero, List.getElem_cons_succ, List.setIfInBounds_toArray, List.set_cons_zero, List.set_cons_succ]
              refine wpAnyH_take (i := 5) (v := ?v4) rfl (by kernel_rfl) (by kernel_rfl) (by kernel_rfl) (fun _ _ _ h => h) (Or.inl ⟨by rfl, ?hy4⟩) (by assumption) ?rest4
              case hy4 => (intro w hSw; (try dsimp only at hSw); go_simp; try with_reducible rfl)
              try simp only [Act.put, List.getElem_toArray, List.getElem_cons_zero, List.getElem_cons_succ, List.setIfInBounds_toArray, List.set_cons_zero, List.set_cons_succ]
              refine wpAnyH_take (i := 6) (v := ?v5) rfl (by kernel_rfl) (by kernel_rfl) (by kernel_rfl) (fun _ _ _ h => h) (Or.inl ⟨by rfl, ?hy5⟩) (by assumption) ?rest5
              case hy5 => (intro w hSw; (try dsimp only at hSw); go_simp; try with_reducible rfl)
              try simp only [Act.put, List.getElem_toArray, List.getElem_cons_zero, List.getElem_cons_succ, List.setIfInBounds_toArray, List.set_cons_zero, List.set_cons_succ]
              refine wpAnyH_take (i := 7) (v := ?v6) rfl (by kernel_rfl) (by kernel_rfl) (by kernel_rfl) (fun _ _ _ h => h) (Or.inl ⟨by rfl, ?hy6⟩) (by assumption) ?rest6
              case hy6 => (intro w hSw; (try dsimp only at hSw); go_simp; try with_reducible rfl)
              try simp only [Act.put, List.getElem_toArray, List.getElem_cons_zero, List.getElem_cons_succ, List.setIfInBounds_toArray, List.set_cons_zero, List.set_cons_succ]
              refine wpAnyH_take (i := 8) (v := ?v7) rfl (by kernel_rfl) (by kernel_rfl) (by kernel_rfl) (fun _ _ _ h => h) (Or.inl ⟨by rfl, ?hy7⟩) (by assumption) ?rest7
              case hy7 => (intro w hSw; (try dsimp only at hSw); go_simp; try with_reducible rfl)
              try simp only [Act.put, List.getElem_toArray, List.getElem_cons_zero, List.getElem_cons_succ, List.setIfInBounds_toArray, List.set_cons_zero, List.set_cons_succ]
              refine wpAnyH_ready (rs := [3]) (by kernel_rfl) (by simp) ?_
              refine AllReadyH.cons rfl (fun K hK => ?_) AllReadyH.nil
              go_simp
              refine (rest_any g d r _ hRD hr100).mono ?_
              rintro e w6 ⟨A6, c6, rfl, hown6, hR6, hf6⟩
              have hB6 := below_frm hB.drew hf6 hB.size (fun k hk => by omega)
              have hF6 := hFD.frm hf6 (by omega)
              have hcS6 : w6.cell? ⟨gs, 0, none⟩ = some (.string ⟨r.toArray⟩) := by have := Blk.cell hF6 0; simpa using this
              have hcv6 := conv_rds (P := Try.prog) w6 22 9 5 Try.underlying22 Try.underlying5 Try.underlying9 A6 _ c6 r (Seg.of_own hown6).rds
              refine hK.out _ _ (hcS6) (fun hHeld => ?_)
              clear hK K
              refine wpAnyH_ready (rs := [4]) (by kernel_rfl) (by simp) ?_
              refine AllReadyH.cons rfl (fun K hK => ?_) AllReadyH.nil
              go_simp
              refine hK.out _ _ (hcS6) (fun hHeld => ?_)
              clear hK K
              refine wpAnyH_take (i := 9) (v := ?v8) rfl (by kernel_rfl) (by kernel_rfl) (by kernel_rfl) (fun _ _ _ h => h) (Or.inl ⟨by rfl, ?hy8⟩) (by assumption) ?rest8
              case hy8 => (intro w hSw; (try dsimp only at hSw); go_simp; try with_reducible rfl)
              try simp only [Act.put, List.getElem_toArray, List.getElem_cons_zero, List.getElem_cons_succ, List.setIfInBounds_toArray, List.set_cons_zero, List.set_cons_succ]
              refine wpAnyH_take (i := 10) (v := ?v9) rfl (by kernel_rfl) (by kernel_rfl) (by kernel_rfl) (fun _ _ _ h => h) (Or.inl ⟨by rfl, ?hy9⟩) (by assumption) ?rest9
              case hy9 => (intro w hSw; (try dsimp only at hSw); go_simp; try with_reducible rfl)
              try simp only [Act.put, List.getElem_toArray, List.getElem_cons_zero, List.getElem_cons_succ, List.setIfInBounds_toArray, List.set_cons_zero, List.set_cons_succ]
              refine wpAnyH_take (i := 11) (v := ?v10) rfl (by kernel_rfl) (by kernel_rfl) (by kernel_rfl) (fun _ _ _ h => h) (Or.inl ⟨by rfl, ?hy10⟩) (by assumption) ?rest10
              case hy10 => (intro w hSw; (try dsimp only at hSw); go_simp; try with_reducible rfl)
              try simp only [Act.put, List.getElem_toArray, List.getElem_cons_zero, List.getElem_cons_succ, List.setIfInBounds_toArray, List.set_cons_zero, List.set_cons_succ]
              refine wpAnyH_done (by kernel_rfl) ?_ _
              go_wp2
              go_ret
              exact ⟨rfl, hB6⟩
        · have hq1 : decide ((k : Int) < (len1 : Int)) = false := by simp; omega
          as_aux_lemma =>
            have hRD : Rd wr.drew g d r := hR
            have hFD : Rf wr.drew gs r := hF
            have hcS : wr.drew.cell? ⟨gs, 0, none⟩ = some (.string ⟨r.toArray⟩) := by have := Blk.cell hFD 0; simpa using this
            go_wp2_with fail
            refine wp_region_held_drew (S := fun W => W.cell? ⟨gs, 0, none⟩ = some (.string ⟨r.toArray⟩)) (by kernel_rfl) (hcS) ?_
            intro hHeld
            refine wpAnyH_take (i := 0) (v := ?v11) rfl (by kernel_rfl) (by kernel_rfl) (by kernel_rfl) (fun _ _ _ h => h) (Or.inl ⟨by rfl, ?hy11⟩) (by assumption) ?rest11
            case hy11 => (intro w hSw; (try dsimp only at hSw); go_simp; try with_reducible rfl)
            try simp only [Act.put, List.getElem_toArray, List.getElem_cons_zero, List.setIfInBounds_toArray, List.set_cons_zero, List.set_cons_succ]
            refine wpAnyH_take (i := 1) (v := ?v12) rfl (by kernel_rfl) (by kernel_rfl) (by kernel_rfl) (fun _ _ _ h => h) (Or.inl ⟨by rfl, ?hy12⟩) (by assumption) ?rest12
            case hy12 => (intro w hSw; (try dsimp only at hSw); go_simp; try with_reducible rfl)
            try simp only [Act.put, List.getElem_toArray, List.getElem_cons_zero, List.getElem_cons_succ, List.setIfInBounds_toArray, List.set_cons_zero, List.set_cons_succ]
            refine wpAnyH_take (i := 2) (v := ?v13) rfl (by kernel_rfl) (by kernel_rfl) (by kernel_rfl) (fun _ _ _ h => h) (Or.inl ⟨by rfl, ?hy13⟩) (by assumption) ?rest13
            case hy13 => (intro w hSw; (try dsimp only at hSw); go_simp; try with_reducible rfl)
            try simp only [Act.put, List.getElem_toArray, List.getElem_cons_zero, List.getElem_cons_succ, List.setIfInBounds_toArray, List.set_cons_zero, List.set_cons_succ]
            refine wpAnyH_take (i := 5) (v := ?v14) rfl (by kernel_rfl) (by kernel_rfl) (by kernel_rfl) (fun _ _ _ h => h) (Or.inl ⟨by rfl, ?hy14⟩) (by assumption) ?rest14
            case hy14 => (intro w hSw; (try dsimp only at hSw); go_simp; try with_reducible rfl)
            try simp only [Act.put, List.getElem_toArray, List.getElem_cons_zero, List.getElem_cons_succ, List.setIfInBounds_toArray, List.set_cons_zero, List.set_cons_succ]
            refine wpAnyH_take (i := 6) (v := ?v15) rfl (by kernel_rfl) (by kernel_rfl) (by kernel_rfl) (fun _ _ _ h => h) (Or.inl ⟨by rfl, ?hy15⟩) (by assumption) ?rest15
            case hy15 => (intro w hSw; (try dsimp only at hSw); go_simp; try with_reducible rfl)
            try simp only [Act.put, List.getElem_toArray, List.getElem_cons_zero, List.getElem_cons_succ, List.setIfInBounds_toArray, List.set_cons_zero, List.set_cons_succ]
            refine wpAnyH_take (i := 7) (v := ?v16) rfl (by kernel_rfl) (by kernel_rfl) (by kernel_rfl) (fun _ _ _ h => h) (Or.inl ⟨by rfl, ?hy16⟩) (by assumption) ?rest16
            case hy16 => (intro w hSw; (try dsimp only at hSw); go_simp; try with_reducible rfl)
            try simp only [Act.put, List.getElem_toArray, List.getElem_cons_zero, List.getElem_cons_succ, List.setIfInBounds_toArray, List.set_cons_zero, List.set_cons_succ]
            refine wpAnyH_take (i := 8) (v := ?v17) rfl (by kernel_rfl) (by kernel_rfl) (by kernel_rfl) (fun _ _ _ h => h) (Or.inl ⟨by rfl, ?hy17⟩) (by assumption) ?rest17
            case hy17 => (intro w hSw; (try dsimp only at hSw); go_simp; try with_reducible rfl)
            try simp only [Act.put, List.getElem_toArray, List.getElem_cons_zero, List.getElem_cons_succ, List.setIfInBounds_toArray, List.set_cons_zero, List.set_cons_succ]
            refine wpAnyH_ready (rs := [3]) (by kernel_rfl) (by simp) ?_
            refine AllReadyH.cons rfl (fun K hK => ?_) AllReadyH.nil
            go_simp
            refine (rest_any g d r _ hRD hr100).mono ?_
            rintro e w6 ⟨A6, c6, rfl, hown6, hR6, hf6⟩
            have hB6 := below_frm hB.drew hf6 hB.size (fun k hk => by omega)
            have hF6 := hFD.frm hf6 (by omega)
            have hcS6 : w6.cell? ⟨gs, 0, none⟩ = some (.string ⟨r.toArray⟩) := by have := Blk.cell hF6 0; simpa using this
            have hcv6 := conv_rds (P := Try.prog) w6 22 9 5 Try.underlying22 Try.underlying5 Try.underlying9 A6 _ c6 r (Seg.of_own hown6).rds
            refine hK.out _ _ (hcS6) (fun hHeld => ?_)
            clear hK K
            refine wpAnyH_ready (rs := [4]) (by kernel_rfl) (by simp) ?_
            refine AllReadyH.cons rfl (fun K hK => ?_) AllReadyH.nil
            go_simp
            refine hK.out _ _ (hcS6) (fun hHeld => ?_)
            clear hK K
            refine wpAnyH_take (i := 9) (v := ?v18) rfl (by kernel_rfl) (by kernel_rfl) (by kernel_rfl) (fun _ _ _ h => h) (Or.inl ⟨by rfl, ?hy18⟩) (by assumption) ?rest18
            case hy18 => (intro w hSw; (try dsimp only at hSw); go_simp; try with_reducible rfl)
            try simp only [Act.put, List.getElem_toArray, List.getElem_cons_zero, List.getElem_cons_succ, List.setIfInBounds_toArray, List.set_cons_zero, List.set_cons_succ]
            refine wpAnyH_take (i := 10) (v := ?v19) rfl (by kernel_rfl) (by kernel_rfl) (by kernel_rfl) (fun _ _ _ h => h) (Or.inl ⟨by rfl, ?hy19⟩) (by assumption) ?rest19
            case hy19 => (intro w hSw; (try dsimp only at hSw); go_simp; try with_reducible rfl)
            try simp only [Act.put, List.getElem_toArray, List.getElem_cons_zero, List.getElem_cons_succ, List.setIfInBounds_toArray, List.set_cons_zero, List.set_cons_succ]
            refine wpAnyH_take (i := 11) (v := ?v20) rfl (by kernel_rfl) (by kernel_rfl) (by kernel_rfl) (fun _ _ _ h => h) (Or.inl ⟨by rfl, ?hy20⟩) (by assumption) ?rest20
            case hy20 => (intro w hSw; (try dsimp only at hSw); go_simp; try with_reducible rfl)
            try simp only [Act.put, List.getElem_toArray, List.getElem_cons_zero, List.getElem_cons_succ, List.setIfInBounds_toArray, List.set_cons_zero, List.set_cons_succ]
            refine wpAnyH_done (by kernel_rfl) ?_ _
            go_wp2
            go_ret
            exact ⟨rfl, hB6⟩
set_option maxHeartbeats 16000000 in
set_option maxRecDepth 100000 in
theorem reads_walk_none (a0 : Option Addr) (len0 cap0 : Nat) (lb : List UInt8) (len1 cap1 : Nat) (K N : Nat → Int) (w : World) (h0 : Rds w a0 len0 (cellsB lb)) (hc0 : len0 ≤ cap0) (hm0 : cap0 ≤ 9223372036854775807) (h1 : Steps2 w none len1 K N) (hc1 : len1 ≤ cap1) (hm1 : cap1 ≤ 9223372036854775807) :
    Calls Try.prog 3 #[.slice a0 len0 cap0, .slice none len1 cap1] w fun e w' => e = .returned (.bool true) ∧ Below w.heap.size w w' := by
  obtain ⟨m, HM, hm1, hm2⟩ := nat_min len0 200
  have HR := hide (h0.take m hm1)
  rw [cellsB_take] at HR
  have HL : Hid ((lb.take m).length = m) := by have := HR.out.1; rwa [cellsB_length] at this
  generalize lb.take m = xb at *
  have HS := hide h1
  clear h1
  go_enter Try.func3, Try.ntmps3
  go_wp2_with fail
  refine (shown_any _).mono ?_
  rintro e w1 ⟨rfl, hb1⟩
  have hr1 : Rds (w1.alloc (.cells #[] 5)) a0 m (cellsB xb) := HR.out.below (hb1.alloc hb1.size _)
  have ho1 := World.ownsRow_made (e := 5) (size := 1) (base := w1.heap.size) w1 #[] 0 (Nat.le_refl _) (by simp [maxLen]) (by simp)
  have hsm1 : (0 + m) * 1 ≤ 140737488355328 := by omega
  have hsm2 : 0 + m ≤ 140737488355328 := by omega
  have hsm3 : w1.heap.size ≤ (w1.alloc (.cells #[] 5)).heap.size := by simp
  go_wp2_with (first | (refine wpl_min rfl (.tmp 28) (.const (.int .i64 200)) _ _ rfl _ (len0 : Int) 200 (m : Int) rfl rfl HM.out ?_) | (at_builtin; refine wpl_app one_u8 rfl (.tmp 25) (.tmp 30) rfl _ w1.heap.size (.slice (some ⟨w1.heap.size, 0, none⟩) 0 0) 0 [] rfl ho1 a0 m cap0 (cellsB xb) rfl hr1 (cellsB_one xb) hsm1 hsm2 hsm3 ?_; intro Ao co w2 hown2 hg2 hat2))
  have hb2 : Below w.heap.size w w2 := (hb1.alloc hb1.size _).trans ((Frm.of_grown hg2).below (by have := hb1.size; simp; omega) (fun k hk => by have := hb1.size; have hh : k = w1.heap.size := Option.some.inj hk; omega))
  rw [Nat.zero_add, List.nil_append] at hown2
  have hb1s := hb1.size
  generalize w1.heap.size = B1 at *
  clear hr1 ho1 hsm1 hsm2 hsm3 hg2 hat2 hb1
  have HGo : Hid (∀ g0, Ao = some ⟨g0, 0, none⟩ → B1 ≤ g0 ∧ g0 < w2.heap.size) := fun g0 h => hown2.lt g0 (by rw [h]; rfl)
  have hrd2 : Rds w2 Ao m (cellsB xb) := (Seg.of_own hown2).rds
  refine (read_any2 Ao m co xb _ hrd2 (by omega)).mono ?_
  rintro e w3 ⟨g, d, rfl, hrd, hb3, hg, hd⟩
  have hb3' := hb2.trans (hb3.mono hb2.size)
  have hown3 := own_frm hown2 (Frm.of_below (S := fun _ => False) hb3) (fun _ _ h => h)
  have hcv3 := conv_rds (P := Try.prog) w3 22 9 5 Try.underlying22 Try.underlying5 Try.underlying9 Ao m co xb (Seg.of_own hown3).rds
  have hgl := hrd.lt
  have hB2 := hb2.size
  have Hd : Hid (∀ k, d = some k → w2.heap.size ≤ k ∧ k < g) := hd
  clear hown2 hrd2 hd hb3 hb2
  go_wp2_with fail
  have F4 : Frm (fun _ => False) w3 (w3.alloc (.cells #[.string ⟨xb.toArray⟩] 29)) := Frm.alloc _ _ _
  have hrf4 : Rf (w3.alloc (.cells #[.string ⟨xb.toArray⟩] 29)) w3.heap.size xb := Blk.new _ _ _
  have hrd4 := hrd.frm F4 (fun h => h) (fun _ _ h => h)
  have hown4 : OwnAny (w3.alloc (.cells #[.string ⟨xb.toArray⟩] 29)) B1 5 Ao m co := ⟨_, own_frm hown3 F4 (fun _ _ h => h)⟩
  have hb4 := hb3'.alloc hb3'.size (.cells #[.string ⟨xb.toArray⟩] 29)
  have hs4 : w3.heap.size < (w3.alloc (.cells #[.string ⟨xb.toArray⟩] 29)).heap.size := by simp
  have hB3 := hb3'.size
  clear F4 hown3 hcv3 hrd hb3'
  generalize w3.alloc (.cells #[.string ⟨xb.toArray⟩] 29) = W4 at *
  generalize w3.heap.size = gs at *
  go_loopw [9] (fun i wr => ∃ k : Nat, k ≤ m ∧ i = .int .i64 k ∧ OwnAny wr B1 5 Ao m co ∧ Frm (fun q => B1 ≤ q ∧ q < w2.heap.size) W4 wr) (fun i _ => m - (intOf i).toNat)
  case atStart => exact ⟨0, by omega, rfl, hown4, Frm.refl _ _⟩
  case round =>
    obtain ⟨k, hk, rfl, hOk, hFk⟩ := hrel
    by_cases hlt : k < m
    · obtain ⟨g0, v0, hA0, hb0, hg0, hck, hfk, hset⟩ := hOk.at hlt
      have HA0 := hide hA0
      have HSET := hide hset
      have hgo := HGo.out g0 hA0
      have hk0 : (0 : Int) ≤ (k : Int) := by omega
      have hkm : (k : Int) < (m : Int) := by omega
      have had : (⟨g0, 0, none⟩ : Addr).add ((k : Int)).toNat = ⟨g0, k, none⟩ := by rw [Int.toNat_natCast]; exact add_zero_off g0 k
      have HAD := hide had
      clear hA0 hset had
      go_wp2_with (refine wpl_idx one_u8 rfl (.tmp 46) (.tmp 47) rfl _ Ao m co (k : Int) rfl rfl ⟨g0, 0, none⟩ ⟨g0, k, none⟩ HA0.out hk0 hkm HAD.out ?_)
      go_roundw
      case rel => exact ⟨k + 1, by omega, by go_num, HSET.out _, hFk.trans (Frm.setCell _ _ _ (fun q => q = g0) rfl) (fun i _ hi => by omega)⟩
      case measure => simp [intOf]; omega
    · have hrd5 := hrd4.frm hFk (by omega) (fun k hk => by have := Hd.out k hk; omega)
      have hrf5 := hrf4.frm hFk (by omega)
      have hb5 := below_frm hb4 hFk hb4.size (fun k hk => by omega)
      have hsz5 := hFk.size
      clear hOk hFk hrd4 hrf4 hb4 hown4
      generalize w2.heap.size = B2 at *
      go_wp2_with fail
      have F6 : Frm (fun _ => False) wr (wr.alloc (.cells #[.int .i64 0, .int .i64 1, .int .i64 2, .int .i64 4, .int .i64 8] 3)) := Frm.alloc _ _ _
      have hinv : ReadsInv xb w g gs wr.heap.size d 0 (wr.alloc (.cells #[.int .i64 0, .int .i64 1, .int .i64 2, .int .i64 4, .int .i64 8] 3)) := ⟨hrd5.frm F6 (fun h => h) (fun _ _ h => h), hrf5.frm F6 (fun h => h), Blk.new _ _ _, hb5.alloc hb5.size _⟩
      have hgz : gs < wr.heap.size := by omega
      clear F6 hrd5 hrf5 hb5
      generalize wr.alloc (.cells #[.int .i64 0, .int .i64 1, .int .i64 2, .int .i64 4, .int .i64 8] 3) = W6 at *
      generalize wr.heap.size = gz at *
      go_loopw [11] (fun i wr => ∃ k j : Nat, k ≤ len1 ∧ k ≤ 50 ∧ j ≤ m ∧ i = .int .i64 k ∧ ReadsInv xb w g gs gz d j wr) (fun i _ => 50 - (intOf i).toNat)
      case atStart => exact ⟨0, 0, by omega, by omega, by omega, rfl, hinv⟩
      case round =>
        obtain ⟨k, j, hk1, hk2, hj, rfl, ⟨hR, hF, hZ, hB⟩⟩ := hrel
        have HLJ : Hid ((xb.drop j).length = m - j) := by rw [List.length_drop, HL.out]; rfl
        generalize hr : xb.drop j = r at *
        have HRJ := hide hr
        clear hr
        have hr100 : r.length ≤ 100000 := by have := HLJ.out; omega
        have hgl1 := hR.lt
        have hgl2 := Blk.lt hF
        have hgl3 := hZ.lt
        by_cases hlt : k < len1
        · have hl0 : len1 = 0 := by
            rcases Nat.eq_zero_or_pos len1 with h | h
            · exact h
            · obtain ⟨a, h, _⟩ := HS.out h; cases h
          omega
        · have hq1 : decide ((k : Int) < (len1 : Int)) = false := by simp; omega
          as_aux_lemma =>
            have hRD : Rd wr.drew g d r := hR
            have hFD : Rf wr.drew gs r := hF
            have hcS : wr.drew.cell? ⟨gs, 0, none⟩ = some (.string ⟨r.toArray⟩) := by have := Blk.cell hFD 0; simpa using this
            go_wp2_with fail
            refine wp_region_held_drew (S := fun W => W.cell? ⟨gs, 0, none⟩ = some (.string ⟨r.toArray⟩)) (by kernel_rfl) (hcS) ?_
            intro hHeld
            refine wpAnyH_take (i := 0) (v := ?v21) rfl (by kernel_rfl) (by kernel_rfl) (by kernel_rfl) (fun _ _ _ h => h) (Or.inl ⟨by rfl, ?hy21⟩) (by assumption) ?rest21
            case hy21 => (intro w hSw; (try dsimp only at hSw); go_simp; try with_reducible rfl)
            try simp only [Act.put, List.getElem_toArray, List.getElem_cons_zero, List.setIfInBounds_toArray, List.set_cons_zero, List.set_cons_succ]
            refine wpAnyH_take (i := 1) (v := ?v22) rfl (by kernel_rfl) (by kernel_rfl) (by kernel_rfl) (fun _ _ _ h => h) (Or.inl ⟨by rfl, ?hy22⟩) (by assumption) ?rest22
            case hy22 => (intro w hSw; (try dsimp only at hSw); go_simp; try with_reducible rfl)
            try simp only [Act.put, List.getElem_toArray, List.getElem_cons_zero, List.getElem_cons_succ, List.setIfInBounds_toArray, List.set_cons_zero, List.set_cons_succ]
            refine wpAnyH_take (i := 2) (v := ?v23) rfl (by kernel_rfl) (by kernel_rfl) (by kernel_rfl) (fun _ _ _ h => h) (Or.inl ⟨by rfl, ?hy23⟩) (by assumption) ?rest23
            case hy23 => (intro w hSw; (try dsimp only at hSw); go_simp; try with_reducible rfl)
            try simp only [Act.put, List.getElem_toArray, List.getElem_cons_zero, List.getElem_cons_succ, List.setIfInBounds_toArray, List.set_cons_zero, List.set_cons_succ]
            refine wpAnyH_take (i := 5) (v := ?v24) rfl (by kernel_rfl) (by kernel_rfl) (by kernel_rfl) (fun _ _ _ h => h) (Or.inl ⟨by rfl, ?hy24⟩) (by assumption) ?rest24
            case hy24 => (intro w hSw; (try dsimp only at hSw); go_simp; try with_reducible rfl)
            try simp only [Act.put, List.getElem_toArray, List.getElem_cons_zero, List.getElem_cons_succ, List.setIfInBounds_toArray, List.set_cons_zero, List.set_cons_succ]
            refine wpAnyH_take (i := 6) (v := ?v25) rfl (by kernel_rfl) (by kernel_rfl) (by kernel_rfl) (fun _ _ _ h => h) (Or.inl ⟨by rfl, ?hy25⟩) (by assumption) ?rest25
            case hy25 => (intro w hSw; (try dsimp only at hSw); go_simp; try with_reducible rfl)
            try simp only [Act.put, List.getElem_toArray, List.getElem_cons_zero, List.getElem_cons_succ, List.setIfInBounds_toArray, List.set_cons_zero, List.set_cons_succ]
            refine wpAnyH_take (i := 7) (v := ?v26) rfl (by kernel_rfl) (by kernel_rfl) (by kernel_rfl) (fun _ _ _ h => h) (Or.inl ⟨by rfl, ?hy26⟩) (by assumption) ?rest26
            case hy26 => (intro w hSw; (try dsimp only at hSw); go_simp; try with_reducible rfl)
            try simp only [Act.put, List.getElem_toArray, List.getElem_cons_zero, List.getElem_cons_succ, List.setIfInBounds_toArray, List.set_cons_zero, List.set_cons_succ]
            refine wpAnyH_take (i := 8) (v := ?v27) rfl (by kernel_rfl) (by kernel_rfl) (by kernel_rfl) (fun _ _ _ h => h) (Or.inl ⟨by rfl, ?hy27⟩) (by assumption) ?rest27
            case hy27 => (intro w hSw; (try dsimp only at hSw); go_simp; try with_reducible rfl)
            try simp only [Act.put, List.getElem_toArray, List.getElem_cons_zero, List.getElem_cons_succ, List.setIfInBounds_toArray, List.set_cons_zero, List.set_cons_succ]
            refine wpAnyH_ready (rs := [3]) (by kernel_rfl) (by simp) ?_
            refine AllReadyH.cons rfl (fun K hK => ?_) AllReadyH.nil
            go_simp
            refine (rest_any g d r _ hRD hr100).mono ?_
            rintro e w6 ⟨A6, c6, rfl, hown6, hR6, hf6⟩
            have hB6 := below_frm hB.drew hf6 hB.size (fun k hk => by omega)
            have hF6 := hFD.frm hf6 (by omega)
            have hcS6 : w6.cell? ⟨gs, 0, none⟩ = some (.string ⟨r.toArray⟩) := by have := Blk.cell hF6 0; simpa using this
            have hcv6 := conv_rds (P := Try.prog) w6 22 9 5 Try.underlying22 Try.underlying5 Try.underlying9 A6 _ c6 r (Seg.of_own hown6).rds
            refine hK.out _ _ (hcS6) (fun hHeld => ?_)
            clear hK K
            refine wpAnyH_ready (rs := [4]) (by kernel_rfl) (by simp) ?_
            refine AllReadyH.cons rfl (fun K hK => ?_) AllReadyH.nil
            go_simp
            refine hK.out _ _ (hcS6) (fun hHeld => ?_)
            clear hK K
            refine wpAnyH_take (i := 9) (v := ?v28) rfl (by kernel_rfl) (by kernel_rfl) (by kernel_rfl) (fun _ _ _ h => h) (Or.inl ⟨by rfl, ?hy28⟩) (by assumption) ?rest28
            case hy28 => (intro w hSw; (try dsimp only at hSw); go_simp; try with_reducible rfl)
            try simp only [Act.put, List.getElem_toArray, List.getElem_cons_zero, List.getElem_cons_succ, List.setIfInBounds_toArray, List.set_cons_zero, List.set_cons_succ]
            refine wpAnyH_take (i := 10) (v := ?v29) rfl (by kernel_rfl) (by kernel_rfl) (by kernel_rfl) (fun _ _ _ h => h) (Or.inl ⟨by rfl, ?hy29⟩) (by assumption) ?rest29
            case hy29 => (intro w hSw; (try dsimp only at hSw); go_simp; try with_reducible rfl)
            try simp only [Act.put, List.getElem_toArray, List.getElem_cons_zero, List.getElem_cons_succ, List.setIfInBounds_toArray, List.set_cons_zero, List.set_cons_succ]
            refine wpAnyH_take (i := 11) (v := ?v30) rfl (by kernel_rfl) (by kernel_rfl) (by kernel_rfl) (fun _ _ _ h => h) (Or.inl ⟨by rfl, ?hy30⟩) (by assumption) ?rest30
            case hy30 => (intro w hSw; (try dsimp only at hSw); go_simp; try with_reducible rfl)
            try simp only [Act.put, List.getElem_toArray, List.getElem_cons_zero, List.getElem_cons_succ, List.setIfInBounds_toArray, List.set_cons_zero, List.set_cons_succ]
            refine wpAnyH_done (by kernel_rfl) ?_ _
            go_wp2
            go_ret
            exact ⟨rfl, hB6⟩

theorem reads_walk (a0 : Option Addr) (len0 cap0 : Nat) (lb : List UInt8) (a1 : Option Addr) (len1 cap1 : Nat) (K N : Nat → Int) (w : World) (h0 : Rds w a0 len0 (cellsB lb)) (hc0 : len0 ≤ cap0) (hm0 : cap0 ≤ 9223372036854775807) (h1 : Steps2 w a1 len1 K N) (hc1 : len1 ≤ cap1) (hm1 : cap1 ≤ 9223372036854775807) :
    Calls Try.prog 3 #[.slice a0 len0 cap0, .slice a1 len1 cap1] w fun e w' => e = .returned (.bool true) ∧ Below w.heap.size w w' := by
  rcases a1 with _ | ad
  · exact reads_walk_none a0 len0 cap0 lb len1 cap1 K N w h0 hc0 hm0 h1 hc1 hm1
  · exact reads_walk_some a0 len0 cap0 lb ad len1 cap1 K N w h0 hc0 hm0 h1 hc1 hm1
end Go.Proofs.Ytiamopkdapdpaaa
