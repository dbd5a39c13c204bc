/-
  HeapFlows' walk: whatever comes in, the law returns true, and what lay lies as it lay.
-/
import Derived.Test.YtjpmicjlbkdcbaaHqSt
namespace Go.Proofs.Ytjpmicjlbkdcbaa
set_option linter.unusedVariables false
set_option linter.unusedSimpArgs false
open Go.RowKit hI

/-- Behind k steps. -/
structure FlowI (k now last inn out : Nat) (q : Qu) : Prop where
  most : q.most = 300
  num : q.num = inn
  sum : q.S.length + out = inn
  le : inn ≤ k
  nowb : now ≤ k * 65535
  lastb : last ≤ now
  late : ∀ y ∈ q.S, last ≤ y.t
set_option maxRecDepth 100000 in
theorem FlowI.push {k now last inn out b t : Nat} {x : Int} {q : Qu} (h : FlowI k now last inn out q) (hb : b ≤ 65535) (ht : t = now + b) : FlowI (k + 1) now last (inn + 1) out ⟨q.most, q.num + 1, insT ⟨t, q.num, x⟩ q.S⟩ := by
  obtain ⟨h1, h2, h3, h4, h5, h6, h7⟩ := h
  refine ⟨h1, by simp [h2], by simp only [insT_length]; omega, by omega, Nat.le_trans h5 (Nat.mul_le_mul_right _ (Nat.le_succ k)), h6, fun y hy => ?_⟩
  rcases insT_mem.1 hy with rfl | hy
  · show last ≤ t; omega
  · exact h7 y hy
set_option maxRecDepth 100000 in
theorem FlowI.pass {k now last inn out b t : Nat} {q : Qu} (h : FlowI k now last inn out q) (hb : b ≤ 65535) (ht : t = now + b) : FlowI (k + 1) t last inn out q := by
  obtain ⟨h1, h2, h3, h4, h5, h6, h7⟩ := h
  exact ⟨h1, h2, h3, by omega, by omega, by omega, h7⟩
theorem FlowI.pop {k now last inn out : Nat} {s : Th} {S : List Th} {q : Qu} (h : FlowI k now last inn out q) (hok : q.ok) (hS : q.S = s :: S) (hs : s.t ≤ now) : last ≤ s.t ∧ FlowI k now s.t inn (out + 1) ⟨q.most, q.num, S⟩ := by
  obtain ⟨h1, h2, h3, h4, h5, h6, h7⟩ := h
  rw [hS] at h3 h7
  refine ⟨h7 s (List.mem_cons_self ..), h1, h2, by simp at h3; show S.length + _ = _; omega, h4, h5, hs, fun y hy => ?_⟩
  have h8 := hok.sorted
  rw [hS] at h8
  have h9 := (List.pairwise_cons.1 h8).1 y hy
  unfold Th.lt at h9
  omega

set_option maxHeartbeats 8000000 in
set_option maxRecDepth 100000 in
theorem flows_walk (A : Option Addr) (len cap : Nat) (l : List Stp) (w : World) (h : SRow w A len l) (hlc : len ≤ cap) (hcm : cap ≤ 9223372036854775807) :
    Calls Try.prog 7 #[.slice A len cap] w fun e w' => e = .returned (.bool true) ∧ Below w.heap.size w w' := by
  have H0 := hide h
  clear h
  have HSH := hide (fun W (h : Below w.heap.size w W) => shown_from (w0 := w) (w := W) h)
  have HBel : Hid (∀ W, Below w.heap.size w W → Below w.heap.size w W) := fun _ h => h
  go_enter Try.func7, Try.ntmps7
  go_wp2_with (first
    | (go_at_call 9; refine (HSH.out _ (Below.refl _ w)).mono ?_; rintro e w1 ⟨rfl, hb1⟩; have HB1 := hide hb1; clear hb1)
    | (go_at_call 10; refine (LH.new HB1.out 300).mono ?_; rintro e w2 ⟨g, rfl, h2⟩; have HH0 := hide h2; clear h2 HB1))
  go_loopw [5, 6, 7, 8, 9, 10, 11, 12, 13, 14, 15, 16, 17, 18] (fun now last inn out i _ _ _ _ _ _ _ _ _ wr => ∃ (k nw ls n o : Nat) (q : Qu), k ≤ Nat.min len 200 ∧ i = .int .i64 (k : Int) ∧ now = .int .u64 (nw : Int) ∧ last = .int .u64 (ls : Int) ∧ inn = .int .i64 (n : Int) ∧ out = .int .i64 (o : Int) ∧ LH w wr g q ∧ FlowI k nw ls n o q) (fun _ _ _ _ i _ _ _ _ _ _ _ _ _ _ => 200 - (intOf i).toNat)
  case atStart => exact ⟨0, 0, 0, 0, 0, _, by omega, rfl, rfl, rfl, rfl, rfl, HH0.out, ⟨rfl, rfl, rfl, Nat.le_refl _, Nat.zero_le _, Nat.le_refl _, fun y hy => by cases hy⟩⟩
  case round =>
    clear HH0
    obtain ⟨k, nw, ls, n, o, q, hk, rfl, rfl, rfl, rfl, rfl, hH, hF⟩ := hrel
    have HH := hide hH
    have HF := hide hF
    have hmn : Nat.min len 200 ≤ len := Nat.min_le_left _ _
    have hmx : Nat.min len 200 ≤ 200 := Nat.min_le_right _ _
    have hnk := hF.le
    have hsum := hF.sum
    have hnw := hF.nowb
    have hls := hF.lastb
    clear hH hF
    by_cases hkn : k < Nat.min len 200
    · have hkl : (k : Int) < (len : Int) := by omega
      have hk1 : (k : Int) < 200 := by omega
      have hk2 : k < 200 := by omega
      obtain ⟨p, rfl, hx64, HAT⟩ := H0.out.at (show k < len by omega)
      obtain ⟨x, hx⟩ : ∃ x, x = l.getD k default := ⟨_, rfl⟩
      rw [← hx] at hx64 HAT
      have cx0 : ∀ W, Below w.heap.size w W → W.cell? (p.add (k * 3)) = some (.int .i64 x.k) := fun W hW => by have := HAT W hW 0 _ rfl; rwa [addr_add0] at this
      have cx1 : ∀ W, Below w.heap.size w W → W.cell? ⟨(p.add (k * 3)).block, (p.add (k * 3)).off + 1, none⟩ = some (.int .u64 (x.t : Int)) := fun W hW => by rw [← add_q (p.add (k * 3)) 1 (by decide)]; exact HAT W hW 1 _ rfl
      have c0 := cx0 wr HH.out.2
      have c1 := cx1 wr HH.out.2
      obtain ⟨b, hb⟩ : ∃ b, b = x.t % 65536 := ⟨_, rfl⟩
      have hb6 : b ≤ 65535 := by omega
      have hmask := mask_u64 x.t hx64
      rw [← hb] at hmask
      obtain ⟨t, ht⟩ : ∃ t, t = nw + b := ⟨_, rfl⟩
      have et : (nw : Int) + (b : Int) = (t : Int) := by omega
      have ht64 : t < 18446744073709551616 := by omega
      have hnwb : nw ≤ 13107000 := by omega
      have HT := hide ht
      clear cx0 cx1 HAT hx hb ht
      by_cases hkk : x.k ≤ 2
      · have HNEXT := hide (HF.out.push (x := (k : Int)) hb6 HT.out)
        have HROOM : Hid ((q.S.length : Int) < q.most) := by show _ < _; rw [HF.out.most]; omega
        have hlen : q.S.length ≤ 50000 := by omega
        have hnum : q.num = n := HF.out.num
        have hnum2 : q.num ≤ 50000 := by omega
        rw [hnum] at HNEXT
        have HNUM := hide hnum
        clear hnum hsum hnw
        go_wp2_with (go_at_call 12; refine (LH.push HH.out t (k : Int) ht64 hlen hnum2).mono ?_; rintro e w3 ⟨he, h3⟩; rw [pushV_ok HROOM.out, HNUM.out] at he; rw [Qu.push_ok _ _ HROOM.out, HNUM.out] at h3; subst he; have HH3 := hide h3; clear h3)
        go_roundw
        case rel => exact ⟨k + 1, nw, ls, n + 1, o, _, by omega, by go_num, rfl, rfl, by go_num, rfl, HH3.out, HNEXT.out⟩
        case measure => simp [intOf]; omega
      · have HPASS := hide (HF.out.pass hb6 HT.out)
        have hS200 : q.S.length ≤ 200 := by omega
        clear HF hsum hnw hls hnk
        go_wp2_with fail
        go_loopw [6, 8, 13, 14, 15, 16] (fun last out i _ _ _ wr => ∃ (j ls o : Nat) (q : Qu), j + q.S.length ≤ 200 ∧ i = .int .i64 (j : Int) ∧ last = .int .u64 (ls : Int) ∧ out = .int .i64 (o : Int) ∧ LH w wr g q ∧ FlowI (k + 1) t ls n o q) (fun _ _ i _ _ _ _ => 201 - (intOf i).toNat)
        case atStart => exact ⟨0, ls, o, q, by omega, rfl, rfl, rfl, HH.out, HPASS.out⟩
        case round =>
          clear HH HPASS hS200 c0 c1
          obtain ⟨j, ls2, o2, q2, hjs, rfl, rfl, rfl, hH2, hF2⟩ := hrel
          have HH2 := hide hH2
          have hj1 : (j : Int) < 201 := by omega
          have hl50 : q2.S.length ≤ 50000 := by omega
          have hls2 := hF2.lastb
          have ho2 : o2 ≤ 200 := by have := hF2.sum; have := hF2.le; omega
          by_cases hdue : ∃ s S, q2.S = s :: S ∧ s.t ≤ t
          · obtain ⟨s, S, hS, hst⟩ := hdue
            obtain ⟨hl1, hn2⟩ := hF2.pop hH2.ok hS hst
            have HJS : Hid (j + 1 + S.length ≤ 200) := by show _ ≤ _; rw [hS] at hjs; simp at hjs; omega
            have HPV := hide (hI.popV_some hS hst)
            have HPQ := hide (Qu.pop_some hS hst)
            have HLN := hide hn2
            have g1 : ¬ (s.t : Int) < (ls2 : Int) := by omega
            have g2 : ¬ (t : Int) < (s.t : Int) := by omega
            clear hF2 hH2 hS hst hl1 hn2 hjs
            go_wp2_with (go_at_call 14; refine (LH.pop HH2.out t hl50).mono ?_; rintro e w4 ⟨he, h4⟩; rw [HPV.out] at he; rw [HPQ.out] at h4; subst he; have HH4 := hide h4; clear h4)
            go_roundw
            case rel => exact ⟨j + 1, s.t, o2 + 1, _, HJS.out, by go_num, rfl, by go_num, HH4.out, HLN.out⟩
            case measure => simp [intOf]; omega
          · have hno : ∀ s ∈ q2.S.head?, t < s.t := by
              intro s hs
              cases hS : q2.S with
              | nil => rw [hS] at hs; cases hs
              | cons s' S =>
                rw [hS] at hs
                obtain rfl : s' = s := by simpa using hs
                exact Nat.lt_of_not_le fun h => hdue ⟨s', S, hS, h⟩
            have HPV := hide (hI.popV_none hno)
            have HPQ := hide (Qu.pop_none hno)
            have HLN := hide hF2
            rcases hQ : q2.S with _ | ⟨s, S⟩
            · have HNV : Hid (hI.nextV q2 = #[.int .u64 0, .bool false]) := by show _ = _; unfold hI.nextV; rw [hQ]
              clear hF2 hH2 hno hdue hjs hQ
              go_wp2_with (first
                | (go_at_call 14; refine (LH.pop HH2.out t hl50).mono ?_; rintro e w4 ⟨he, h4⟩; rw [HPV.out] at he; rw [HPQ.out] at h4; subst he; have HH4 := hide h4; clear h4)
                | (go_at_call 16; refine (LH.next HH4.out).mono ?_; rintro e w5 ⟨he, hw5⟩; rw [HNV.out] at he; subst he; replace hw5 := hw5.symm; subst hw5))
              go_roundw
              case rel => exact ⟨k + 1, t, ls2, n, o2, q2, by omega, by go_num, rfl, rfl, rfl, rfl, HH4.out, HLN.out⟩
              case measure => simp [intOf]; omega
            · have HNV : Hid (hI.nextV q2 = #[.int .u64 (s.t : Int), .bool true]) := by show _ = _; unfold hI.nextV; rw [hQ]
              have g3 : ¬ (s.t : Int) ≤ (t : Int) := by have := hno s (by rw [hQ]; rfl); omega
              clear hF2 hH2 hno hdue hjs hQ
              go_wp2_with (first
                | (go_at_call 14; refine (LH.pop HH2.out t hl50).mono ?_; rintro e w4 ⟨he, h4⟩; rw [HPV.out] at he; rw [HPQ.out] at h4; subst he; have HH4 := hide h4; clear h4)
                | (go_at_call 16; refine (LH.next HH4.out).mono ?_; rintro e w5 ⟨he, hw5⟩; rw [HNV.out] at he; subst he; replace hw5 := hw5.symm; subst hw5))
              go_roundw
              case rel => exact ⟨k + 1, t, ls2, n, o2, q2, by omega, by go_num, rfl, rfl, rfl, rfl, HH4.out, HLN.out⟩
              case measure => simp [intOf]; omega
    · have hex : (¬ (k : Int) < (len : Int)) ∨ ((k : Int) < (len : Int) ∧ ¬ (k : Int) < 200) := by
        by_cases h1 : k < len
        · right
          have : Nat.min len 200 = min len 200 := rfl
          omega
        · exact .inl (by omega)
      have hon : o ≤ n := by omega
      have hn2 : n ≤ 200 := by omega
      obtain ⟨m, hm⟩ : ∃ m, m = q.S.length := ⟨_, rfl⟩
      have hfin : ((m : Int) == (n : Int) - (o : Int)) = true := by rw [beq_iff_eq]; omega
      have HM := hide hm.symm
      clear HF hkn hmn hmx hk hm hsum hnw hls hnk
      rcases hex with hex | ⟨hex, hex2⟩
      all_goals
        go_wp2_with (go_at_call 18; refine (LH.len HH.out).mono ?_; rintro e w3 ⟨rfl, hw3⟩; replace hw3 := hw3.symm; subst hw3; rw [HM.out])
        go_ret
        exact ⟨rfl, HH.out.2⟩
end Go.Proofs.Ytjpmicjlbkdcbaa
