/-
  DirectFull: the walk.
-/
import Derived.Test.YtjicnfkodieaaaaDoorDsT
namespace Go.Proofs.YtjicnfkodieaaaaDoor
set_option linter.unusedVariables false
set_option linter.unusedSimpArgs false
open Go.RowKit

/-- The records by turns. -/
def recF (v i : Nat) : Rec := ⟨i % 16, v + i, v + i, i⟩
def FullAt (v k : Nat) (D : List Rec) : Prop := D.length = k ∧ ∀ x, x ∈ D ↔ ∃ i, i < k ∧ x = recF v i
theorem full_zero (v : Nat) : FullAt v 0 [] := ⟨rfl, fun x => by simp⟩
theorem full_step {v k : Nat} {D : List Rec} (h : FullAt v k D) (hk : k < 64) : whyL D (recF v k) = 0 ∧ ∃ D', addL D (recF v k) = D' ∧ FullAt v (k + 1) D' := by
  have h0 : withinL D (recF v k).a (recF v k).f (recF v k).t = [] := List.filter_eq_nil_iff.2 fun x hx => by
    obtain ⟨i, hi, rfl⟩ := (h.2 x).1 hx
    simp [Rec.meets, recF]
    omega
  have hw : whyL D (recF v k) = 0 := by
    unfold whyL
    rw [if_neg (by unfold recF; show ¬ (16 ≤ k % 16 ∨ v + k < v + k); omega), if_neg (by rw [h0]; simp), if_neg (by rw [h.1]; omega)]
  refine ⟨hw, _, rfl, ?_⟩
  unfold addL
  rw [if_pos hw]
  refine ⟨by rw [insL_length, h.1], fun x => ?_⟩
  rw [mem_insL, h.2]
  constructor
  · rintro (rfl | ⟨i, hi, rfl⟩)
    · exact ⟨k, by omega, rfl⟩
    · exact ⟨i, by omega, rfl⟩
  · rintro ⟨i, hi, rfl⟩
    by_cases e : i = k
    · subst e; exact .inl rfl
    · exact .inr ⟨i, by omega, rfl⟩
def hitF (v : Nat) (r : Rec) (i : Nat) : Bool := decide (r.a = i % 16 ∧ r.f ≤ v + i ∧ v + i ≤ r.t)
def wantN (v : Nat) (r : Rec) (k : Nat) : Nat := if (List.range k).any (hitF v r) = true then 12 else 8
theorem want_yes {v : Nat} {r : Rec} {k : Nat} (h : r.a = k % 16 ∧ r.f ≤ v + k ∧ v + k ≤ r.t) : wantN v r (k + 1) = 12 := by
  unfold wantN
  rw [if_pos]
  rw [List.range_succ, List.any_append, List.any_cons, show hitF v r k = true from decide_eq_true h]
  simp
theorem want_no {v : Nat} {r : Rec} {k : Nat} (h : ¬ (r.a = k % 16 ∧ r.f ≤ v + k ∧ v + k ≤ r.t)) : wantN v r (k + 1) = wantN v r k := by
  unfold wantN
  rw [List.range_succ, List.any_append, List.any_cons, show hitF v r k = false from decide_eq_false h]
  simp
theorem full_why {v : Nat} {D : List Rec} {r : Rec} (h : FullAt v 64 D) : (16 ≤ r.a ∨ r.t < r.f → whyL D r = 1) ∧ (¬ (16 ≤ r.a ∨ r.t < r.f) → whyL D r = wantN v r 64) := by
  refine ⟨fun h1 => by unfold whyL; rw [if_pos h1], fun h1 => ?_⟩
  unfold whyL wantN
  rw [if_neg h1]
  by_cases hh : (List.range 64).any (hitF v r) = true
  · rw [if_pos hh, if_pos]
    obtain ⟨i, hi, h2⟩ := List.any_eq_true.1 hh
    have h3 := of_decide_eq_true h2
    refine List.length_pos_of_mem (a := recF v i) (List.mem_filter.2 ⟨(h.2 _).2 ⟨i, List.mem_range.1 hi, rfl⟩, ?_⟩)
    show (decide (i % 16 = r.a) && (decide (v + i ≤ r.t) && decide (r.f ≤ v + i))) = true
    rw [decide_eq_true h3.1.symm, decide_eq_true h3.2.2, decide_eq_true h3.2.1]
    rfl
  · rw [if_neg hh, if_neg, if_pos (by rw [h.1]; omega)]
    intro h2
    obtain ⟨x, hx⟩ := List.exists_mem_of_length_pos h2
    obtain ⟨h3, h4⟩ := List.mem_filter.1 hx
    obtain ⟨i, hi, rfl⟩ := (h.2 x).1 h3
    refine hh (List.any_eq_true.2 ⟨i, List.mem_range.2 hi, decide_eq_true ?_⟩)
    have h5 : (decide (i % 16 = r.a) && (decide (v + i ≤ r.t) && decide (r.f ≤ v + i))) = true := h4
    simp only [Bool.and_eq_true, decide_eq_true_eq] at h5
    exact ⟨h5.1.symm, h5.2.2, h5.2.1⟩
theorem full_bad {v : Nat} {D : List Rec} {r : Rec} (h : FullAt v 64 D) : ¬ whyL D r = 0 := by
  by_cases h1 : 16 ≤ r.a ∨ r.t < r.f
  · rw [(full_why h).1 h1]; decide
  · rw [(full_why h).2 h1]; unfold wantN; split <;> decide

set_option maxHeartbeats 8000000 in
set_option maxRecDepth 100000 in
theorem full_walk (v : Nat) (r : Rec) (w : World) (hG : Gl w) (hg0 : 2 ≤ w.heap.size) (hv : v < 65536) (hr : r.in32) :
    Calls Tryd.prog 9 #[.int .u16 (v : Int), recV r] w fun e w' => e = .returned (.bool true) ∧ Below w.heap.size w w' := by
  obtain ⟨a, f, t, l⟩ := r
  have hr0 : a < 65536 ∧ f < 4294967296 ∧ t < 4294967296 ∧ l < 4294967296 := hr
  have HIN := hide hr
  obtain ⟨ha0, hf0, ht0, hl0⟩ := hr0
  have hf1 : Frm (fun _ => False) w (w.alloc (.cells #[.int .u16 (a : Int), .int .u32 (f : Int), .int .u32 (t : Int), .int .u32 (l : Int)] 37)) := Frm.alloc _ _ _
  have HR1 := hide ((run_start w hG hg0).frm0 hf1)
  have HB1 := hide (Blk.new w 37 #[.int .u16 (a : Int), .int .u32 (f : Int), .int .u32 (t : Int), .int .u32 (l : Int)])
  clear hf1 hG hr
  simp only [recV, recC]
  go_enter Tryd.func9, Tryd.ntmps9
  go_wp2_with fail
  refine (shown9 w _ HR1.out).mono ?_
  rintro e w1 ⟨rfl, f1⟩
  have HR2 := hide (HR1.out.frm0 f1)
  have HB2 := hide (HB1.out.frm0a f1)
  clear HR1 HB1 f1
  go_wp2_with fail
  refine (lnew w w1 HR2.out).mono ?_
  rintro e w2 ⟨g, bm, rfl, h2, f2, hg2, hb2⟩
  have HB3 := hide (HB2.out.frm0a f2)
  have HL3 := hide h2
  have HNE : Hid (w.heap.size ≠ g ∧ w.heap.size ≠ bm) := by have := HB2.out.lt; exact ⟨by omega, by omega⟩
  clear h2 f2 hg2 hb2 HR2 HB2
  go_wp2_with fail
  go_loopw [7] (fun i wr => ∃ (k : Nat) (D : List Rec), k ≤ 64 ∧ i = .int .u32 k ∧ FullAt v k D ∧ Liv w wr g bm D ∧ Blk wr w.heap.size 37 #[.int .u16 (a : Int), .int .u32 (f : Int), .int .u32 (t : Int), .int .u32 (l : Int)]) (fun i _ => 64 - (intOf i).toNat)
  case atStart => exact ⟨0, [], by omega, rfl, full_zero v, HL3.out, HB3.out⟩
  case round =>
    clear HL3 HB3
    obtain ⟨k, D, hk, rfl, hF, hi, hb⟩ := hrel
    have HF := hide hF
    have HI := hide hi
    have HB := hide hb
    clear hF hi hb
    by_cases h64 : k < 64
    · have h64' : (k : Int) < 64 := by omega
      have hst := full_step HF.out h64
      obtain ⟨m, hm⟩ : ∃ m, m = k % 16 := ⟨_, rfl⟩
      obtain ⟨n, hn⟩ : ∃ n, n = v + k := ⟨_, rfl⟩
      unfold recF at hst
      rw [← hm, ← hn] at hst
      obtain ⟨hw0, D', hD', hF'⟩ := hst
      have hm1 : (k : Int) % 16 = (m : Int) := by omega
      have hm16 : m < 16 := by omega
      have hmw : IntKind.u16.wrap (m : Int) = (m : Int) := by rw [IntKind.wrap_u16]; omega
      have hn1 : (v : Int) + (k : Int) = (n : Int) := by omega
      have hn32 : n < 4294967296 := by omega
      have hadd := ladd_is HI.out ⟨m, n, n, k⟩ ⟨by show m < _; omega, hn32, hn32, by show k < _; omega⟩ 0 D' hw0 hD'
      simp only [recV, recC] at hadd
      have HADD := hide hadd
      have HF1 := hide hF'
      clear hadd hF' hw0 hD' hm hn HF HI
      go_wp2_with fail
      refine HADD.out.mono ?_
      rintro e w3 ⟨rfl, h3, f3⟩
      have H3 := hide h3
      have HB4 := hide (HB.out.frm f3 (fun e => HNE.out.2 e))
      clear h3 f3 HADD HB
      go_wp2_with fail
      go_roundw
      case rel => exact ⟨k + 1, D', by omega, by go_num, HF1.out, H3.out, HB4.out⟩
      case measure => simp [intOf]; omega
    · obtain rfl : k = 64 := by omega
      go_wp2_with fail
      refine (lbytes HI.out).mono ?_
      rintro e w5 ⟨A, c, rfl, ho, h5, f5⟩
      obtain ⟨hr5, hc5⟩ := own_rds8 ho rfl
      obtain ⟨B, hB⟩ : ∃ B, B = bytesL D := ⟨_, rfl⟩
      have HBX := hide hB
      rw [← hB] at hr5 ⊢
      obtain ⟨n5, hn5⟩ : ∃ n, n = B.length := ⟨_, rfl⟩
      rw [← hn5] at hr5 ⊢
      have hcv : Sem.run Tryd.prog (convert 50 9 (.slice A n5 c)) w5 = .ok (.string ⟨B.toArray⟩) w5 := conv_rds _ _ _ 5 Tryd.underlying50 Tryd.underlying5 Tryd.underlying9 A n5 c B hr5
      have H5 := hide h5
      have HB5 := hide (HB.out.frm0a f5)
      obtain ⟨q, hq⟩ : ∃ q, q = whyL D ⟨a, f, t, l⟩ := ⟨_, rfl⟩
      have hadd := ladd_is H5.out ⟨a, f, t, l⟩ HIN.out q D hq.symm (add_bad (full_bad HF.out))
      simp only [recV, recC] at hadd
      have HADD := hide hadd
      have HQ := hide hq
      have hB5 := HB5.out
      clear ho h5 f5 hr5 hc5 hB hn5 hadd hq HI HB
      go_wp2_with (with_reducible refine wpl_loada (op := ⟨some 41, _, _, _, _, _⟩) aggR rfl (.tmp 3) rfl w.heap.size 0 rfl _ [.int .u16 (a : Int), .int .u32 (f : Int), .int .u32 (t : Int), .int .u32 (l : Int)] [.int .u16 (a : Int), .int .u32 (f : Int), .int .u32 (t : Int), .int .u32 (l : Int)] hB5 (take4 _ _ _ _) (len4 _ _ _ _) ?_)
      refine HADD.out.mono ?_
      rintro e w6 ⟨rfl, h6, f6⟩
      have H6 := hide h6
      have HB6 := hide (HB5.out.frm f6 (fun e => HNE.out.2 e))
      clear h6 f6 HADD H5 HB5 hB5 hcv
      go_wp2_with fail
      go_loopw [10, 11, 12] (fun x i y wr => ∃ k : Nat, k ≤ 64 ∧ i = .int .u32 k ∧ x = .int .i64 (wantN v ⟨a, f, t, l⟩ k : Nat) ∧ Liv w wr g bm D ∧ Blk wr w.heap.size 37 #[.int .u16 (a : Int), .int .u32 (f : Int), .int .u32 (t : Int), .int .u32 (l : Int)]) (fun _ i _ _ => 64 - (intOf i).toNat)
      case atStart => exact ⟨0, by omega, rfl, rfl, H6.out, HB6.out⟩
      case round =>
        clear H6 HB6
        obtain ⟨k, hk, rfl, rfl, hi, hb⟩ := hrel
        have HI7 := hide hi
        have HB7 := hide hb
        clear hi hb
        by_cases h64 : k < 64
        · have h64' : (k : Int) < 64 := by omega
          obtain ⟨m, hm⟩ : ∃ m, m = k % 16 := ⟨_, rfl⟩
          obtain ⟨n, hn⟩ : ∃ n, n = v + k := ⟨_, rfl⟩
          have hm1 : (k : Int) % 16 = (m : Int) := by omega
          have hm16 : m < 16 := by omega
          have hn1 : (v : Int) + (k : Int) = (n : Int) := by omega
          have hn32 : n < 4294967296 := by omega
          have d0 : wr.cell? ⟨w.heap.size, 0, none⟩ = some (.int .u16 (a : Int)) := HB7.out.cell 0
          have d1 : wr.cell? ⟨w.heap.size, 1, none⟩ = some (.int .u32 (f : Int)) := HB7.out.cell 1
          have d2 : wr.cell? ⟨w.heap.size, 2, none⟩ = some (.int .u32 (t : Int)) := HB7.out.cell 2
          by_cases ha : a = m
          · have ha1 : (a : Int) = (m : Int) := by omega
            by_cases hf : f ≤ n
            · have hf1 : (f : Int) ≤ (n : Int) := by omega
              by_cases ht : n ≤ t
              · have ht1 : (n : Int) ≤ (t : Int) := by omega
                have HWN : Hid (wantN v ⟨a, f, t, l⟩ (k + 1) = 12) := want_yes (by show (a = k % 16 ∧ f ≤ v + k ∧ v + k ≤ t); omega)
                clear hm hn
                go_wp2_with fail
                go_roundw
                case rel => exact ⟨k + 1, by omega, by go_num, by rw [HWN.out]; rfl, HI7.out, HB7.out⟩
                case measure => simp [intOf]; omega
              · have ht1 : ¬ (n : Int) ≤ (t : Int) := by omega
                have HWN : Hid (wantN v ⟨a, f, t, l⟩ (k + 1) = wantN v ⟨a, f, t, l⟩ k) := want_no (by show ¬ (a = k % 16 ∧ f ≤ v + k ∧ v + k ≤ t); omega)
                clear hm hn
                go_wp2_with fail
                go_roundw
                case rel => exact ⟨k + 1, by omega, by go_num, by rw [HWN.out], HI7.out, HB7.out⟩
                case measure => simp [intOf]; omega
            · have hf1 : ¬ (f : Int) ≤ (n : Int) := by omega
              have HWN : Hid (wantN v ⟨a, f, t, l⟩ (k + 1) = wantN v ⟨a, f, t, l⟩ k) := want_no (by show ¬ (a = k % 16 ∧ f ≤ v + k ∧ v + k ≤ t); omega)
              clear hm hn
              go_wp2_with fail
              go_roundw
              case rel => exact ⟨k + 1, by omega, by go_num, by rw [HWN.out], HI7.out, HB7.out⟩
              case measure => simp [intOf]; omega
          · have ha1 : ¬ (a : Int) = (m : Int) := by omega
            have HWN : Hid (wantN v ⟨a, f, t, l⟩ (k + 1) = wantN v ⟨a, f, t, l⟩ k) := want_no (by show ¬ (a = k % 16 ∧ f ≤ v + k ∧ v + k ≤ t); omega)
            clear hm hn
            go_wp2_with fail
            go_roundw
            case rel => exact ⟨k + 1, by omega, by go_num, by rw [HWN.out], HI7.out, HB7.out⟩
            case measure => simp [intOf]; omega
        · obtain rfl : k = 64 := by omega
          obtain ⟨u, hu⟩ : ∃ u, u = wantN v ⟨a, f, t, l⟩ 64 := ⟨_, rfl⟩
          rw [← hu]
          have d0 : wr.cell? ⟨w.heap.size, 0, none⟩ = some (.int .u16 (a : Int)) := HB7.out.cell 0
          have d1 : wr.cell? ⟨w.heap.size, 1, none⟩ = some (.int .u32 (f : Int)) := HB7.out.cell 1
          have d2 : wr.cell? ⟨w.heap.size, 2, none⟩ = some (.int .u32 (t : Int)) := HB7.out.cell 2
          have H7 := hide HI7.out
          by_cases hA : 16 ≤ a
          · have hA1 : (16 : Int) ≤ (a : Int) := by omega
            obtain rfl : q = 1 := by rw [HQ.out]; exact (full_why HF.out).1 (.inl hA)
            clear HI7 HB7 hu HQ
            go_wp2_with fail
            refine (lbytes H7.out).mono ?_
            rintro e w8 ⟨A8, c8, rfl, ho8, h8, f8⟩
            obtain ⟨hr8, hc8⟩ := own_rds8 ho8 rfl
            rw [← HBX.out] at hr8 ⊢
            obtain ⟨n8, hn8⟩ : ∃ n, n = B.length := ⟨_, rfl⟩
            rw [← hn8] at hr8 ⊢
            have hcv8 : Sem.run Tryd.prog (convert 50 9 (.slice A8 n8 c8)) w8 = .ok (.string ⟨B.toArray⟩) w8 := conv_rds _ _ _ 5 Tryd.underlying50 Tryd.underlying5 Tryd.underlying9 A8 n8 c8 B hr8
            have HLEN := hide (llen_is h8 64 HF.out.1)
            have HBEL := hide h8.run.below
            clear ho8 h8 f8 hr8 hc8 hn8 H7
            go_wp2_with fail
            refine HLEN.out.mono ?_
            rintro e w9 ⟨rfl, rfl⟩
            go_wp2_with fail
            go_ret
            exact ⟨rfl, HBEL.out⟩
          · have hA1 : ¬ (16 : Int) ≤ (a : Int) := by omega
            by_cases hT : t < f
            · have hT1 : (t : Int) < (f : Int) := by omega
              obtain rfl : q = 1 := by rw [HQ.out]; exact (full_why HF.out).1 (.inr hT)
              clear HI7 HB7 hu HQ
              go_wp2_with fail
              refine (lbytes H7.out).mono ?_
              rintro e w8 ⟨A8, c8, rfl, ho8, h8, f8⟩
              obtain ⟨hr8, hc8⟩ := own_rds8 ho8 rfl
              rw [← HBX.out] at hr8 ⊢
              obtain ⟨n8, hn8⟩ : ∃ n, n = B.length := ⟨_, rfl⟩
              rw [← hn8] at hr8 ⊢
              have hcv8 : Sem.run Tryd.prog (convert 50 9 (.slice A8 n8 c8)) w8 = .ok (.string ⟨B.toArray⟩) w8 := conv_rds _ _ _ 5 Tryd.underlying50 Tryd.underlying5 Tryd.underlying9 A8 n8 c8 B hr8
              have HLEN := hide (llen_is h8 64 HF.out.1)
              have HBEL := hide h8.run.below
              clear ho8 h8 f8 hr8 hc8 hn8 H7
              go_wp2_with fail
              refine HLEN.out.mono ?_
              rintro e w9 ⟨rfl, rfl⟩
              go_wp2_with fail
              go_ret
              exact ⟨rfl, HBEL.out⟩
            · have hT1 : ¬ (t : Int) < (f : Int) := by omega
              obtain rfl : q = u := by rw [HQ.out, hu]; exact (full_why HF.out).2 (by show ¬ (16 ≤ a ∨ t < f); omega)
              clear HI7 HB7 hu HQ
              go_wp2_with fail
              refine (lbytes H7.out).mono ?_
              rintro e w8 ⟨A8, c8, rfl, ho8, h8, f8⟩
              obtain ⟨hr8, hc8⟩ := own_rds8 ho8 rfl
              rw [← HBX.out] at hr8 ⊢
              obtain ⟨n8, hn8⟩ : ∃ n, n = B.length := ⟨_, rfl⟩
              rw [← hn8] at hr8 ⊢
              have hcv8 : Sem.run Tryd.prog (convert 50 9 (.slice A8 n8 c8)) w8 = .ok (.string ⟨B.toArray⟩) w8 := conv_rds _ _ _ 5 Tryd.underlying50 Tryd.underlying5 Tryd.underlying9 A8 n8 c8 B hr8
              have HLEN := hide (llen_is h8 64 HF.out.1)
              have HBEL := hide h8.run.below
              clear ho8 h8 f8 hr8 hc8 hn8 H7
              go_wp2_with fail
              refine HLEN.out.mono ?_
              rintro e w9 ⟨rfl, rfl⟩
              go_wp2_with fail
              go_ret
              exact ⟨rfl, HBEL.out⟩
end Go.Proofs.YtjicnfkodieaaaaDoor
