/-
  HeapTimes' walk: whatever comes in, the law returns true, and what lay lies as it lay.
-/
import Derived.Test.YtjpmicjlbkdcbaaHqSh
namespace Go.Proofs.Ytjpmicjlbkdcbaa
set_option linter.unusedVariables false
set_option linter.unusedSimpArgs false
open Go.RowKit hI

/-- What comes out is what went in: its number is its place, its tick that of the row, below 1000. -/
def OfM (l : List Nat) (S : List Th) : Prop := ∀ y ∈ S, y.n < l.length ∧ y.x = (y.n : Int) ∧ y.t = l.getD y.n 0 % 1000
/-- What a heap has behind k pushes. -/
structure TimeI (M : Int) (l : List Nat) (k : Nat) (q : Qu) : Prop where
  most : q.most = M
  num : q.num = k
  len : q.S.length = k
  src : OfM l q.S
theorem TimeI.push {M : Int} {l : List Nat} {k t : Nat} {q : Qu} (h : TimeI M l k q) (hk : k < l.length) (ht : t = l.getD k 0 % 1000) : TimeI M l (k + 1) ⟨q.most, q.num + 1, insT ⟨t, q.num, (k : Int)⟩ q.S⟩ := by
  obtain ⟨h1, h2, h3, h4⟩ := h
  refine ⟨h1, by simp [h2], by simp [insT_length, h3], fun y hy => ?_⟩
  rcases insT_mem.1 hy with rfl | hy
  · subst h2
    exact ⟨hk, rfl, ht⟩
  · exact h4 y hy
/-- What is left at a time: nothing of an earlier one. -/
structure LeftI (n : Nat) (l : List Nat) (t c : Nat) (q : Qu) : Prop where
  sum : q.S.length + c = n
  src : OfM l q.S
  late : ∀ y ∈ q.S, t ≤ y.t

set_option maxHeartbeats 8000000 in
set_option maxRecDepth 100000 in
theorem times_walk (A : Option Addr) (len cap : Nat) (l : List Nat) (w : World) (h : Rds w A len (cellsI .u64 l)) (hu : ∀ n ∈ l, n < 18446744073709551616) (hlc : len ≤ cap) (hcm : cap ≤ 9223372036854775807) :
    Calls Try.prog 5 #[.slice A len cap] w fun e w' => e = .returned (.bool true) ∧ Below w.heap.size w w' := by
  obtain ⟨n, HM, hn, hn', he⟩ := nat_min len 100
  clear he
  have H0 := hide (h.first hn)
  have HU : Hid (∀ x ∈ l.take n, x < 18446744073709551616) := fun x hx => hu x (List.mem_of_mem_take hx)
  have hnc : n ≤ cap := by omega
  generalize l.take n = R at *
  clear h hu
  have HLEN : Hid (R.length = n) := by have := H0.out.1; rwa [cellsI_length] at this
  have HSH := hide (fun W (h : Below w.heap.size w W) => shown_from (w0 := w) (w := W) h)
  have HBel : Hid (∀ W, Below w.heap.size w W → Below w.heap.size w W) := fun _ h => h
  go_enter Try.func5, Try.ntmps5
  go_wp2_with (first
    | (go_at_call 9; refine (HSH.out _ (Below.refl _ w)).mono ?_; rintro e w1 ⟨rfl, hb1⟩; have HB1 := hide hb1; clear hb1)
    | (refine wpl_min rfl (.tmp 15) (.const (.int .i64 100)) _ _ rfl _ (len : Int) 100 (n : Int) rfl rfl HM.out ?_)
    | (go_at_call 10; refine (LH.new HB1.out 100).mono ?_; rintro e w2 ⟨g, rfl, h2⟩; have HH0 := hide h2; clear h2 HB1))
  go_loopw [5] (fun i wr => ∃ (k : Nat) (q : Qu), k ≤ n ∧ i = .int .i64 (k : Int) ∧ LH w wr g q ∧ TimeI 100 R k q) (fun i _ => n - (intOf i).toNat)
  case atStart => exact ⟨0, _, by omega, rfl, HH0.out, ⟨rfl, rfl, rfl, fun y hy => by cases hy⟩⟩
  case round =>
    clear HH0
    obtain ⟨k, q, hk, rfl, hH, hF⟩ := hrel
    have HH := hide hH
    have HF := hide hF
    clear hH hF
    by_cases hkn : k < n
    · have hkn' : (k : Int) < (n : Int) := by omega
      obtain ⟨a, rfl, hkl2, hcx⟩ := H0.out.num hkn
      obtain ⟨x, hx⟩ : ∃ x, x = R.getD k 0 := ⟨_, rfl⟩
      rw [← hx] at hcx
      obtain ⟨t, ht⟩ : ∃ t, t = x % 1000 := ⟨_, rfl⟩
      have ht64 : t < 18446744073709551616 := by omega
      have HNEXT := hide (HF.out.push (t := t) hkl2 (by rw [ht, hx]))
      have et : (x : Int) % 1000 = (t : Int) := by omega
      have HX := hide hx
      have HT := hide ht
      clear hx ht
      have hcx' : wr.cell? (a.add k) = some (.int .u64 (x : Int)) := cell_below (HBel.out wr HH.out.2) hcx
      have HROOM : Hid ((q.S.length : Int) < q.most) := by show _ < _; rw [HF.out.len, HF.out.most]; omega
      have hlen : q.S.length ≤ 50000 := by rw [HF.out.len]; omega
      have hnum : q.num = k := HF.out.num
      have hnum2 : q.num ≤ 50000 := by omega
      rw [hnum] at HNEXT
      have HNUM := hide hnum
      clear hnum hcx
      go_wp2_with (go_at_call 12; refine (LH.push HH.out t (k : Int) ht64 hlen hnum2).mono ?_; rintro e w3 ⟨he, h3⟩; rw [Qu.push_ok _ _ HROOM.out, HNUM.out] at h3; subst he; have HH3 := hide h3; clear h3)
      go_roundw
      case rel => exact ⟨k + 1, _, by omega, by go_num, HH3.out, HNEXT.out⟩
      case measure => simp [intOf]; omega
    · obtain rfl : k = n := by omega
      have HLF : Hid (LeftI k R 0 0 q) := hide ⟨by rw [HF.out.len]; omega, HF.out.src, fun _ _ => Nat.zero_le _⟩
      clear HF
      go_wp2_with fail
      go_loopw [6, 7, 8, 9, 10, 11] (fun c now _ _ _ _ wr => ∃ (t m : Nat) (q : Qu), t ≤ 1000 ∧ now = .int .u64 (t : Int) ∧ c = .int .i64 (m : Int) ∧ LH w wr g q ∧ LeftI k R t m q) (fun _ now _ _ _ _ _ => 1000 - (intOf now).toNat)
      case atStart => exact ⟨0, 0, q, by omega, rfl, rfl, HH.out, HLF.out⟩
      case round =>
        clear HH HLF
        obtain ⟨t, m, q2, ht, rfl, rfl, hH2, hL2⟩ := hrel
        have HH2 := hide hH2
        have HL2 := hide hL2
        clear hH2 hL2
        by_cases ht1 : t < 1000
        · have ht1' : (t : Int) < 1000 := by omega
          go_wp2_with fail
          go_loopw [6, 8, 9, 10, 11] (fun c i _ _ _ wr => ∃ (j m : Nat) (q : Qu), j ≤ 100 ∧ j + q.S.length ≤ 100 ∧ i = .int .i64 (j : Int) ∧ c = .int .i64 (m : Int) ∧ LH w wr g q ∧ LeftI k R t m q) (fun _ i _ _ _ _ => 101 - (intOf i).toNat)
          case atStart => exact ⟨0, m, q2, by omega, by have := HL2.out.sum; omega, rfl, rfl, HH2.out, HL2.out⟩
          case round =>
            clear HH2 HL2
            obtain ⟨j, m2, q3, hj, hjs, rfl, rfl, hH2, hL2⟩ := hrel
            have HH2 := hide hH2
            have hj1 : (j : Int) < 101 := by omega
            have hl50 : q3.S.length ≤ 50000 := by omega
            by_cases hdue : ∃ s S, q3.S = s :: S ∧ s.t ≤ t
            · obtain ⟨s, S, hS, hst⟩ := hdue
              obtain ⟨hsn, hsx, hstt⟩ := hL2.src s (by rw [hS]; exact List.mem_cons_self ..)
              have hlate := hL2.late s (by rw [hS]; exact List.mem_cons_self ..)
              rw [HLEN.out] at hsn
              have hsum := hL2.sum
              have HJS : Hid (j + 1 + S.length ≤ 100) := by show _ ≤ _; rw [hS] at hjs; simp at hjs; omega
              have HJ : Hid (j + 1 ≤ 100) := by show _ ≤ _; have := HJS.out; omega
              have HPV := hide (hI.popV_some hS hst)
              have HPQ := hide (Qu.pop_some hS hst)
              rw [hsx, show s.t = t by omega] at HPV
              have HLN : Hid (LeftI k R t (m2 + 1) ⟨q3.most, q3.num, S⟩) := hide ⟨by rw [hS] at hsum; simp at hsum; show S.length + _ = _; omega, fun y hy => hL2.src y (by rw [hS]; exact List.mem_cons_of_mem _ hy), fun y hy => hL2.late y (by rw [hS]; exact List.mem_cons_of_mem _ hy)⟩
              obtain ⟨a, rfl, _, hcs⟩ := H0.out.num (show s.n < k from hsn)
              obtain ⟨x, hx⟩ : ∃ x, x = R.getD s.n 0 := ⟨_, rfl⟩
              rw [← hx] at hcs hstt
              have HCS : Hid (∀ W, Below w.heap.size w W → W.cell? (a.add s.n) = some (.int .u64 (x : Int))) := fun W hW => cell_below hW hcs
              have ext : (x : Int) % 1000 = (t : Int) := by omega
              have hsn' : (s.n : Int) < (k : Int) := by omega
              have hsn0 : ¬ (s.n : Int) < 0 := by omega
              have hsnk : ¬ (k : Int) ≤ (s.n : Int) := by omega
              have hmk : m2 ≤ 100 := by omega
              clear hx hL2 hH2 hS hst hsx hstt hlate hsum hcs hjs
              go_wp2_with (go_at_call 14; refine (LH.pop HH2.out t hl50).mono ?_; rintro e w4 ⟨he, h4⟩; rw [HPV.out] at he; rw [HPQ.out] at h4; subst he; have HH4 := hide h4; have hcs4 := HCS.out w4 h4.2; clear h4)
              go_roundw
              case rel => exact ⟨j + 1, m2 + 1, _, HJ.out, HJS.out, by go_num, by go_num, HH4.out, HLN.out⟩
              case measure => simp [intOf]; omega
            · have hno : ∀ s ∈ q3.S.head?, t < s.t := by
                intro s hs
                cases hS : q3.S with
                | nil => rw [hS] at hs; cases hs
                | cons s' S =>
                  rw [hS] at hs
                  obtain rfl : s' = s := by simpa using hs
                  exact Nat.lt_of_not_le fun h => hdue ⟨s', S, hS, h⟩
              have HPV := hide (hI.popV_none hno)
              have HPQ := hide (Qu.pop_none hno)
              have HLN : Hid (LeftI k R (t + 1) m2 q3) := hide ⟨hL2.sum, hL2.src, fun y hy => by
                cases hS : q3.S with
                | nil => rw [hS] at hy; cases hy
                | cons s S =>
                  have h1 := hno s (by rw [hS]; rfl)
                  have h2 := hH2.ok.sorted
                  rw [hS] at h2 hy
                  rcases List.mem_cons.1 hy with rfl | hy
                  · exact h1
                  · have h3 := (List.pairwise_cons.1 h2).1 y hy
                    unfold Th.lt at h3
                    omega⟩
              have hmk : m2 ≤ 100 := by have := hL2.sum; omega
              clear hL2 hH2 hno hdue hjs
              go_wp2_with (go_at_call 14; refine (LH.pop HH2.out t hl50).mono ?_; rintro e w4 ⟨he, h4⟩; rw [HPV.out] at he; rw [HPQ.out] at h4; subst he; have HH4 := hide h4; clear h4)
              go_roundw
              case rel => exact ⟨t + 1, m2, q3, by omega, by go_num, rfl, HH4.out, HLN.out⟩
              case measure => simp [intOf]; omega
        · have ht1' : ¬ (t : Int) < 1000 := by omega
          have hS : q2.S = [] := by
            cases hS : q2.S with
            | nil => rfl
            | cons s S =>
              have h1 := HL2.out.late s (by rw [hS]; exact List.mem_cons_self ..)
              have h2 := (HL2.out.src s (by rw [hS]; exact List.mem_cons_self ..)).2.2
              omega
          have hmk : m = k := by have := HL2.out.sum; rw [hS] at this; simpa using this
          subst hmk
          clear hS HL2
          go_wp2
          go_ret
          exact ⟨rfl, HH2.out.2⟩
end Go.Proofs.Ytjpmicjlbkdcbaa
