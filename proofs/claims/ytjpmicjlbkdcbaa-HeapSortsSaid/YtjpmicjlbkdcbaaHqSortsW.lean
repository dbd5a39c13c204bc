/-
  HeapSorts' walk: whatever comes in, the law returns true, and what lay lies as it lay.
-/
import Derived.Test.YtjpmicjlbkdcbaaHqSh
namespace Go.Proofs.Ytjpmicjlbkdcbaa
set_option linter.unusedVariables false
set_option linter.unusedSimpArgs false
open Go.RowKit hI

/-- What comes out is what went in: its number is its place, its tick that of the row. -/
def Of (l : List Nat) (S : List Th) : Prop := ∀ y ∈ S, y.n < l.length ∧ y.x = (y.n : Int) ∧ y.t = l.getD y.n 0
/-- What a heap has behind k pushes. -/
structure SortI (M : Int) (l : List Nat) (k : Nat) (q : Qu) : Prop where
  most : q.most = M
  num : q.num = k
  len : q.S.length = k
  src : Of l q.S
theorem SortI.push {M : Int} {l : List Nat} {k t : Nat} {q : Qu} (h : SortI M l k q) (hk : k < l.length) (ht : t = l.getD k 0) : SortI M l (k + 1) ⟨q.most, q.num + 1, insT ⟨t, q.num, (k : Int)⟩ q.S⟩ := by
  obtain ⟨h1, h2, h3, h4⟩ := h
  refine ⟨h1, by simp [h2], by simp [insT_length, h3], fun y hy => ?_⟩
  rcases insT_mem.1 hy with rfl | hy
  · subst h2
    exact ⟨hk, rfl, ht⟩
  · exact h4 y hy

set_option maxHeartbeats 8000000 in
set_option maxRecDepth 100000 in
theorem sorts_walk (A : Option Addr) (len cap : Nat) (l : List Nat) (w : World) (h : Rds w A len (cellsI .u64 l)) (hu : ∀ n ∈ l, n < 18446744073709551616) (hlc : len ≤ cap) (hcm : cap ≤ 9223372036854775807) :
    Calls Try.prog 4 #[.slice A len cap] w fun e w' => e = .returned (.bool true) ∧ Below w.heap.size w w' := by
  obtain ⟨n, HM, hn, hn', he⟩ := nat_min len 200
  clear he
  have H0 := hide (h.first hn)
  have HU : Hid (∀ x ∈ l.take n, x < 18446744073709551616) := fun x hx => hu x (List.mem_of_mem_take hx)
  have hnc : n ≤ cap := by omega
  generalize l.take n = R at *
  clear h hu
  have HLEN : Hid (R.length = n) := by have := H0.out.1; rwa [cellsI_length] at this
  have HSH := hide (fun W (h : Below w.heap.size w W) => shown_from (w0 := w) (w := W) h)
  have HBel : Hid (∀ W, Below w.heap.size w W → Below w.heap.size w W) := fun _ h => h
  go_enter Try.func4, Try.ntmps4
  go_wp2_with (first
    | (go_at_call 9; refine (HSH.out _ (Below.refl _ w)).mono ?_; rintro e w1 ⟨rfl, hb1⟩; have HB1 := hide hb1; clear hb1)
    | (refine wpl_min rfl (.tmp 19) (.const (.int .i64 200)) _ _ rfl _ (len : Int) 200 (n : Int) rfl rfl HM.out ?_)
    | (go_at_call 10; refine (LH.new HB1.out 200).mono ?_; rintro e w2 ⟨g, rfl, h2⟩; have HH0 := hide h2; clear h2 HB1))
  go_loopw [5, 6, 7] (fun i _ _ wr => ∃ (k : Nat) (q : Qu), k ≤ n ∧ i = .int .i64 (k : Int) ∧ LH w wr g q ∧ SortI 200 R k q) (fun i _ _ _ => n - (intOf i).toNat)
  case atStart => exact ⟨0, _, by omega, rfl, HH0.out, ⟨rfl, rfl, rfl, fun y hy => by cases hy⟩⟩
  case round =>
    clear HH0
    obtain ⟨k, q, hk, rfl, hH, hF⟩ := hrel
    have HH := hide hH
    have HF := hide hF
    clear hH hF
    by_cases hkn : k < n
    · have hkn' : (k : Int) < (n : Int) := by omega
      obtain ⟨a, rfl, hkl2, hcx⟩ := H0.out.num hkn
      obtain ⟨x, hx⟩ : ∃ x, x = R.getD k 0 := ⟨_, rfl⟩
      have hx64 : x < 18446744073709551616 := by rw [hx]; exact HU.out _ (getD_mem hkl2)
      rw [← hx] at hcx
      have HNEXT := hide (HF.out.push hkl2 hx)
      have HX := hide hx
      clear hx
      have ew : IntKind.u64.wrap (k : Int) = (k : Int) := by rw [IntKind.wrap_u64]; omega
      have hcx' : wr.cell? (a.add k) = some (.int .u64 (x : Int)) := cell_below (HBel.out wr HH.out.2) hcx
      have HROOM : Hid ((q.S.length : Int) < q.most) := by show _ < _; rw [HF.out.len, HF.out.most]; omega
      have hlen : q.S.length ≤ 50000 := by rw [HF.out.len]; omega
      have hnum : q.num = k := HF.out.num
      have hnum2 : q.num ≤ 50000 := by omega
      rw [hnum] at HNEXT
      have HNUM := hide hnum
      clear hnum hcx
      go_wp2_with (go_at_call 12; refine (LH.push HH.out x (k : Int) hx64 hlen hnum2).mono ?_; rintro e w3 ⟨he, h3⟩; rw [pushV_ok HROOM.out, HNUM.out] at he; rw [Qu.push_ok _ _ HROOM.out, HNUM.out] at h3; subst he; have HH3 := hide h3; clear h3)
      go_roundw
      case rel => exact ⟨k + 1, _, by omega, by go_num, HH3.out, HNEXT.out⟩
      case measure => simp [intOf]; omega
    · obtain rfl : k = n := by omega
      have HL0 := hide HF.out.len
      have HS0 := hide HF.out.src
      clear HF
      go_wp2_with fail
      go_loopw [8, 9, 10, 11, 12] (fun last i _ _ _ wr => ∃ (j : Nat) (q : Qu), j ≤ k ∧ i = .int .i64 (j : Int) ∧ LH w wr g q ∧ q.S.length = k - j ∧ Of R q.S ∧ ((last = .int .i64 (-1)) ∨ ∃ s : Th, last = .int .i64 (s.n : Int) ∧ s.n < k ∧ s.t = R.getD s.n 0 ∧ ∀ y ∈ q.S, s.lt y)) (fun _ i _ _ _ _ => k - (intOf i).toNat)
      case atStart => exact ⟨0, q, by omega, rfl, HH.out, HL0.out, HS0.out, .inl rfl⟩
      case round =>
        clear HH HL0 HS0
        obtain ⟨j, q2, hj, rfl, hH2, hl2, hs2, hlast⟩ := hrel
        have HH2 := hide hH2
        by_cases hjn : j < k
        · have hjn' : (j : Int) < (k : Int) := by omega
          obtain ⟨s, S, hS⟩ : ∃ s S, q2.S = s :: S := by
            cases h : q2.S with
            | nil => rw [h] at hl2; simp at hl2; omega
            | cons s S => exact ⟨s, S, rfl⟩
          have hst : s.t ≤ 18446744073709551615 := by have := hH2.ok.ticks s (by rw [hS]; exact List.mem_cons_self ..); omega
          obtain ⟨hsn, hsx, hstt⟩ := hs2 s (by rw [hS]; exact List.mem_cons_self ..)
          rw [HLEN.out] at hsn
          have HL2 : Hid (S.length = k - (j + 1)) := by show _ = _; rw [hS] at hl2; simp at hl2; omega
          have HS2 : Hid (Of R S) := fun y hy => hs2 y (by rw [hS]; exact List.mem_cons_of_mem _ hy)
          have HSO : Hid (∀ y ∈ S, s.lt y) := by
            have := hH2.ok.sorted
            rw [hS] at this
            exact (List.pairwise_cons.1 this).1
          have HPV := hide (hI.popV_some hS hst)
          have HPQ := hide (Qu.pop_some hS hst)
          rw [hsx] at HPV
          have hl50 : q2.S.length ≤ 50000 := by omega
          obtain ⟨a, rfl, _, hcs⟩ := H0.out.num (show s.n < k from hsn)
          rw [← hstt] at hcs
          have HCS : Hid (∀ W, Below w.heap.size w W → W.cell? (a.add s.n) = some (.int .u64 (s.t : Int))) := fun W hW => cell_below hW hcs
          have hsn' : (s.n : Int) < (k : Int) := by omega
          have hsn0 : ¬ (s.n : Int) < 0 := by omega
          have hsnk : ¬ (k : Int) ≤ (s.n : Int) := by omega
          have HSTT := hide hstt
          rcases hlast with rfl | ⟨p, rfl, hpn, hpt, hpl⟩
          · clear hH2 hl2 hs2 hS hsx hcs hstt
            go_wp2_with (go_at_call 14; refine (LH.pop HH2.out 18446744073709551615 hl50).mono ?_; rintro e w4 ⟨he, h4⟩; rw [HPV.out] at he; rw [HPQ.out] at h4; subst he; have HH4 := hide h4; have hcs4 := HCS.out w4 h4.2; clear h4)
            go_roundw
            case rel => exact ⟨j + 1, _, by omega, by go_num, HH4.out, HL2.out, HS2.out, .inr ⟨s, rfl, hsn, HSTT.out, HSO.out⟩⟩
            case measure => simp [intOf]; omega
          · have hps := hpl s (by rw [hS]; exact List.mem_cons_self ..)
            obtain ⟨a', ha', _, hcp⟩ := H0.out.num (show p.n < k from hpn)
            obtain rfl : a = a' := Option.some.inj ha'
            rw [← hpt] at hcp
            have HCP : Hid (∀ W, Below w.heap.size w W → W.cell? (a.add p.n) = some (.int .u64 (p.t : Int))) := fun W hW => cell_below hW hcp
            have hpn' : (p.n : Int) < (k : Int) := by omega
            have hp0 : (0 : Int) ≤ (p.n : Int) := by omega
            by_cases heq : p.t = s.t
            · have hlt : p.n < s.n := by unfold Th.lt at hps; omega
              have hge : ¬ (s.n : Int) ≤ (p.n : Int) := by omega
              have hgt : ¬ (s.t : Int) < (p.t : Int) := by omega
              have hee : ((p.t : Int) == (s.t : Int)) = true := by rw [heq]; exact beq_self_eq_true _
              clear hH2 hl2 hs2 hS hsx hcs hcp hstt hps heq hpl hpt ha'
              go_wp2_with (go_at_call 14; refine (LH.pop HH2.out 18446744073709551615 hl50).mono ?_; rintro e w4 ⟨he, h4⟩; rw [HPV.out] at he; rw [HPQ.out] at h4; subst he; have HH4 := hide h4; have hcs4 := HCS.out w4 h4.2; have hcp4 := HCP.out w4 h4.2; clear h4)
              go_roundw
              case rel => exact ⟨j + 1, _, by omega, by go_num, HH4.out, HL2.out, HS2.out, .inr ⟨s, rfl, hsn, HSTT.out, HSO.out⟩⟩
              case measure => simp [intOf]; omega
            · have hgt : ¬ (s.t : Int) < (p.t : Int) := by unfold Th.lt at hps; omega
              have hee : ((p.t : Int) == (s.t : Int)) = false := beq_eq_false_iff_ne.2 (by omega)
              clear hH2 hl2 hs2 hS hsx hcs hcp hstt hps heq hpl hpt ha'
              go_wp2_with (go_at_call 14; refine (LH.pop HH2.out 18446744073709551615 hl50).mono ?_; rintro e w4 ⟨he, h4⟩; rw [HPV.out] at he; rw [HPQ.out] at h4; subst he; have HH4 := hide h4; have hcs4 := HCS.out w4 h4.2; have hcp4 := HCP.out w4 h4.2; clear h4)
              go_roundw
              case rel => exact ⟨j + 1, _, by omega, by go_num, HH4.out, HL2.out, HS2.out, .inr ⟨s, rfl, hsn, HSTT.out, HSO.out⟩⟩
              case measure => simp [intOf]; omega
        · have hjn' : ¬ (j : Int) < (k : Int) := by omega
          have hS : q2.S = [] := List.eq_nil_of_length_eq_zero (by omega)
          have hno : ∀ s ∈ q2.S.head?, 18446744073709551615 < s.t := by rw [hS]; intro s h; cases h
          have HPV := hide (hI.popV_none hno)
          have HPQ := hide (Qu.pop_none hno)
          have HL0 : Hid (q2.S.length = 0) := by show _ = _; rw [hS]; rfl
          have hl50 : q2.S.length ≤ 50000 := by omega
          clear hS hno hl2 hs2 hH2 hlast
          go_wp2_with (first
            | (go_at_call 14; refine (LH.pop HH2.out 18446744073709551615 hl50).mono ?_; rintro e w4 ⟨he, h4⟩; rw [HPV.out] at he; rw [HPQ.out] at h4; subst he; have HH4 := hide h4; clear h4)
            | (go_at_call 18; refine (LH.len HH4.out).mono ?_; rintro e w3 ⟨rfl, hw3⟩; replace hw3 := hw3.symm; subst hw3; rw [HL0.out]))
          go_ret
          exact ⟨rfl, HH4.out.2⟩
end Go.Proofs.Ytjpmicjlbkdcbaa
