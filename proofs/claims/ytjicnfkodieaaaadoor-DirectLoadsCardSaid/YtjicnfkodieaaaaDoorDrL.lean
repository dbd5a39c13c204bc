/-
  Bytes read as records: which bytes are a directory's.
-/
import Derived.Test.YtjicnfkodieaaaaDoorDr6
namespace Go.Proofs.YtjicnfkodieaaaaDoor
set_option linter.unusedVariables false
set_option linter.unusedSimpArgs false
open Go.RowKit

def decR (l : List UInt8) : Rec := ⟨num (l.take 2), num ((l.drop 2).take 4), num ((l.drop 6).take 4), num ((l.drop 10).take 4)⟩
/-- So many records, each of fourteen bytes. -/
def recsL (l : List UInt8) : Nat → List Rec
  | 0 => []
  | k + 1 => decR l :: recsL (l.drop 14) k
theorem recsL_length (l : List UInt8) : ∀ k, (recsL l k).length = k
  | 0 => rfl
  | k + 1 => by simp [recsL, recsL_length (l.drop 14) k]
theorem recsL_at : ∀ (k : Nat) (l : List UInt8) (j : Nat), j < k → (recsL l k).getD j default = decR (l.drop (14 * j))
  | 0, l, j, h => absurd h (by omega)
  | k + 1, l, 0, h => by simp [recsL]
  | k + 1, l, j + 1, h => by
    have := recsL_at k (l.drop 14) j (by omega)
    rw [List.drop_drop] at this
    rw [show 14 * (j + 1) = 14 + 14 * j by omega, ← this]
    rfl
theorem num_lt2 (l : List UInt8) : num (l.take 2) < 65536 := Nat.lt_of_lt_of_le (num_take_lt l 2 2 (by omega)) (by decide)
theorem num_lt4 (l : List UInt8) : num (l.take 4) < 4294967296 := Nat.lt_of_lt_of_le (num_take_lt l 4 4 (by omega)) (by decide)
theorem decR_in (l : List UInt8) : (decR l).in32 := ⟨num_lt2 _, num_lt4 _, num_lt4 _, num_lt4 _⟩

/-- One more at the end. -/
theorem insL_last (x : Rec) : ∀ (D : List Rec), (∀ y ∈ D, y.lt x) → insL x D = D ++ [x]
  | [], _ => rfl
  | y :: D, h => by
    unfold insL
    rw [if_pos (h y (List.mem_cons_self ..)), insL_last x D (fun z hz => h z (List.mem_cons_of_mem _ hz))]
    rfl
theorem last_all {D : List Rec} (h : D.Pairwise Rec.lt) {x : Rec} (hx : D = [] ∨ (D.getLastD default).lt x) : ∀ y ∈ D, y.lt x := by
  intro y hy
  rcases hx with rfl | hx
  · cases hy
  · obtain ⟨D', z, rfl⟩ : ∃ D' z, D = D' ++ [z] := by
      rcases List.eq_nil_or_concat D with rfl | ⟨D', z, h⟩
      · cases hy
      · exact ⟨D', z, by rw [h]; simp⟩
    have e : (D' ++ [z]).getLastD default = z := by simp
    rw [e] at hx
    rcases List.mem_append.1 hy with h1 | h1
    · exact lt_trans ((List.pairwise_append.1 h).2.2 y h1 z (by simp)) hx
    · rw [List.mem_singleton.1 h1]
      exact hx
theorem step_iff {D : List Rec} (h : DirOk D) {x : Rec} (hx : x.in32) : DirOk (D ++ [x]) ↔ (D = [] ∨ (D.getLastD default).lt x) ∧ whyL D x = 0 := by
  constructor
  · intro k
    obtain ⟨k1, k2, k3⟩ := k
    have hxo := k2 x (by simp)
    have hp := List.pairwise_append.1 k1
    refine ⟨?_, ?_⟩
    · rcases List.eq_nil_or_concat D with h0 | ⟨D', z, h0⟩
      · exact .inl h0
      · right
        have e : D.getLastD default = z := by rw [h0]; simp
        rw [e]
        exact Rec.lt_of_ahead (k2 z (by rw [h0]; simp)) (hp.2.2 z (by rw [h0]; simp) x (by simp))
    · unfold whyL
      have h1 := hxo.a
      have h2 := hxo.ft
      rw [if_neg (by omega)]
      have h3 : withinL D x.a x.f x.t = [] := by
        refine List.filter_eq_nil_iff.2 fun y hy => ?_
        have h4 := hp.2.2 y hy x (by simp)
        have h5 := (k2 y (by simp [hy])).ft
        unfold Rec.ahead at h4
        simp [Rec.meets]
        omega
      rw [h3, if_neg (by simp), if_neg (by simp at k3; omega)]
  · rintro ⟨h1, h2⟩
    have hl := last_all h.sorted h1
    have := h.add hx
    unfold addL at this
    rwa [if_pos h2, insL_last x D hl] at this
theorem step_add {D : List Rec} (h : DirOk D) {x : Rec} (h1 : D = [] ∨ (D.getLastD default).lt x) (h2 : whyL D x = 0) : addL D x = D ++ [x] := by
  unfold addL
  rw [if_pos h2, insL_last x D (last_all h.sorted h1)]
theorem DirOk.take {D : List Rec} (h : DirOk D) (k : Nat) : DirOk (D.take k) :=
  ⟨h.apart.sublist (List.take_sublist k D), fun r hr => h.ok r (List.mem_of_mem_take hr), Nat.le_trans (by rw [List.length_take]; omega) h.len⟩
theorem take_succ_rec (D : List Rec) (k : Nat) (h : k < D.length) : D.take (k + 1) = D.take k ++ [D.getD k default] := by
  rw [List.take_succ_eq_append_getElem h, List.getD_eq_getElem?_getD, List.getElem?_eq_getElem h]
  rfl
theorem getLast_take (D : List Rec) (k : Nat) (h : k < D.length) : (D.take (k + 1)).getLastD default = D.getD k default := by
  rw [take_succ_rec D k h]
  simp

/-- What was encoded is decoded. -/
theorem be_take2 (n : Nat) (l : List UInt8) (w : Nat) : (be w n ++ l).take w = be w n := by rw [List.take_append_of_le_length (by rw [be_length]; exact Nat.le_refl _), List.take_of_length_le (by rw [be_length]; exact Nat.le_refl _)]
theorem be_drop2 (n : Nat) (l : List UInt8) (w : Nat) : (be w n ++ l).drop w = l := by rw [List.drop_append_of_le_length (by rw [be_length]; exact Nat.le_refl _), List.drop_eq_nil_of_le (by rw [be_length]; exact Nat.le_refl _), List.nil_append]
theorem dec_enc (r : Rec) (h : r.in32) (l : List UInt8) : decR (encR r ++ l) = r := by
  obtain ⟨h1, h2, h3, h4⟩ := h
  have e : encR r ++ l = be 2 r.a ++ (be 4 r.f ++ (be 4 r.t ++ (be 4 r.l ++ l))) := by simp [encR, List.append_assoc]
  have d2 : (encR r ++ l).drop 2 = be 4 r.f ++ (be 4 r.t ++ (be 4 r.l ++ l)) := by rw [e, be_drop2]
  have d6 : (encR r ++ l).drop 6 = be 4 r.t ++ (be 4 r.l ++ l) := by rw [show (6 : Nat) = 2 + 4 from rfl, ← List.drop_drop, d2, be_drop2]
  have d10 : (encR r ++ l).drop 10 = be 4 r.l ++ l := by rw [show (10 : Nat) = 6 + 4 from rfl, ← List.drop_drop, d6, be_drop2]
  unfold decR
  rw [d2, d6, d10, e, be_take2, be_take2, be_take2, be_take2, num_be 2 _ (by omega), num_be 4 _ (by omega), num_be 4 _ (by omega), num_be 4 _ (by omega)]
theorem recs_enc : ∀ (D : List Rec) (l : List UInt8), (∀ r ∈ D, r.in32) → recsL (encL D ++ l) D.length = D
  | [], l, _ => rfl
  | r :: D, l, h => by
    have e : encL (r :: D) ++ l = encR r ++ (encL D ++ l) := by simp [encL, List.append_assoc]
    have e2 : (encR r ++ (encL D ++ l)).drop 14 = encL D ++ l := by
      have := encR_length r
      rw [List.drop_append_of_le_length (by omega), List.drop_eq_nil_of_le (by omega), List.nil_append]
    rw [e]
    show decR _ :: recsL _ _ = _
    rw [dec_enc r (h r (by simp)), e2, recs_enc D l (fun x hx => h x (by simp [hx]))]
end Go.Proofs.YtjicnfkodieaaaaDoor
