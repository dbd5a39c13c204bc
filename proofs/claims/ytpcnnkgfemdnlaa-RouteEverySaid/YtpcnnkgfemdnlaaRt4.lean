/-
  route: slices.Delete of one node of a row of one's own, by a contract.
-/
import Derived.Test.YtpcnnkgfemdnlaaRt3
namespace Go.Proofs.Ytpcnnkgfemdnlaa
set_option linter.unusedVariables false
open Go.RowKit

theorem erase_take_drop (L : List Nat) (p : Nat) : L.take p ++ L.drop (p + 1) = L.eraseIdx p := (List.eraseIdx_eq_take_drop_succ L p).symm
theorem splice_take {α : Type} (cur c : List α) (n : Nat) (h : n ≤ cur.length) : (splice cur n c).take n = cur.take n := by
  rw [splice, List.take_append_of_le_length (by rw [List.length_take]; omega), List.take_of_length_le (by rw [List.length_take]; omega)]
theorem splice_length {α : Type} (cur c : List α) (n : Nat) (h : n + c.length ≤ cur.length) : (splice cur n c).length = cur.length := by
  simp [splice]; omega

set_option maxHeartbeats 4000000 in
theorem delete_any (base g n c p : Nat) (L : List Nat) (w : World) (hown : w.ownsRow base 25 1 (.slice (some ⟨g, 0, none⟩) n c) n (cellsI .u16 L)) (hp : p < n) (q : Nat) (hq : q = p + 1) (m : Nat) (hm : m + 1 = n) :
    Calls Try.prog 21 #[.slice (some ⟨g, 0, none⟩) n c, .int .i64 (p : Int), .int .i64 (q : Int)] w fun e w' => e = .returned (.slice (some ⟨g, 0, none⟩) m c) ∧
      w'.ownsRow base 25 1 (.slice (some ⟨g, 0, none⟩) m c) m (cellsI .u16 (L.eraseIdx p)) ∧ Frm (fun k => k = g) w w' := by
  have hll : L.length = n := by have := hown.1; rw [cellsI_length] at this; omega
  obtain ⟨cur0, hb0, hl0, ht0, hn0, hc0, hg0⟩ := own_blk hown
  have hnc : n ≤ c := hn0
  have hcm : c ≤ 9223372036854775807 := by simpa only [maxLen] using hc0
  have HP : Hid (w.drew.ownsRow base 25 1 (.slice (some ⟨g, 0, none⟩) p c) p (cellsI .u16 (L.take p))) := by
    have := own_short hown (j := p) (by omega)
    rwa [cellsI_take] at this
  obtain ⟨A, hA, HR⟩ : ∃ A : Addr, (if c = q then some (⟨g, 0, none⟩ : Addr) else some ⟨g, q, none⟩) = some A ∧ Hid (Rds w.drew (some A) (n - q) (cellsI .u16 (L.drop q))) := by
    have h := ((own_rds hown).cut c q (by omega) (by omega)).frm0 (Frm.refl _ w).drew
    rw [cellsI_drop] at h
    by_cases e : c = q
    · rw [if_pos e] at h ⊢
      exact ⟨_, rfl, h⟩
    · rw [if_neg e] at h ⊢
      simp only [Option.map_some, addr_add, Nat.zero_add] at h
      exact ⟨_, rfl, h⟩
  have HE : Hid (cellsI .u16 (L.take p) ++ cellsI .u16 (L.drop q) = cellsI .u16 (L.eraseIdx p)) := by
    show _ = _
    rw [← cellsI_append, hq, erase_take_drop]
  have HM : Hid (m = p + (n - q)) := by show _ = _; omega
  have hqn : q ≤ n := by omega
  have hqi : (q : Int) ≤ (n : Int) := by omega
  have hpq : p ≤ q := by omega
  have hpqi : (p : Int) ≤ (q : Int) := by omega
  have hne : ¬ ((p : Int) = (q : Int)) := by omega
  have hpc : p ≤ c := by omega
  have hpci : (p : Int) ≤ (c : Int) := by omega
  have hmc : p + (n - q) ≤ c := by omega
  have hmn : m ≤ n := by omega
  have HCM : Hid (¬ (c = m)) := by show ¬ _; omega
  have H1 : Hid (1 = n - m) := by show _ = _; omega
  clear hb0 hl0 ht0 hn0 hc0 hg0 hll hq cur0
  go_enter Try.func21, Try.ntmps21
  go_wp2_with (with_reducible refine wpl_cutQ3 one_ad rfl (.tmp 8) (.tmp 9) (.tmp 10) (.tmp 12) rfl (some ⟨g, 0, none⟩) n c p q n rfl rfl rfl rfl hpq hqn hnc ?_; intro A1 n1 c1)
  go_region_law (refine step_fits one_ad rfl (.tmp 22) (.tmp 25) rfl w.drew base g p c (cellsI .u16 (L.take p)) (by simp [Act.eval, Act.put]) HP.out (some A) A rfl (n - q) (c - q) (cellsI .u16 (L.drop q)) (by simp [Act.eval, Act.put]) HR.out (cellsI_one _) hmc m HM.out ?_; intro w1 hown1 hF1)
  rw [HE.out] at hown1
  obtain ⟨cur, hb, hl, ht, hn1, hc1, hg1⟩ := own_blk hown1
  have HOWN : Hid (∀ w2, Blk w2 g 25 (splice cur m (List.replicate 1 (.int .u16 0))).toArray → w2.ownsRow base 25 1 (.slice (some ⟨g, 0, none⟩) m c) m (cellsI .u16 (L.eraseIdx p))) := by
    intro w2 h2
    have := own_of (n := m) (c := c) (base := base) h2 (by rw [splice_length _ _ _ (by rw [hl]; simp; omega)]; exact hl) hn1 hc1 hg1
    rwa [splice_take _ _ _ (by omega), ht] at this
  have HFIT : Hid (m + 1 ≤ cur.length) := by show _ ≤ _; omega
  have HA2 : Hid (some (⟨g, m, none⟩ : Addr) = if c = m then some ⟨g, 0, none⟩ else (some (⟨g, 0, none⟩ : Addr)).map (·.add m)) := by
    show _ = _
    rw [if_neg HCM.out, Option.map_some, addr_add, Nat.zero_add]
  have hF01 := (((Frm.refl (fun k => k = g) w).drew).trans hF1 (fun _ _ h => h))
  have HF := hide hF01
  have HB := hide hb
  clear hown1 hb hl ht hn1 hc1 hg1 hF1 hF01 hA HR HP HE
  go_wp2_with (first
    | (with_reducible refine wpl_cutQ2 one_ad rfl (.tmp 27) (.tmp 29) (.tmp 30) rfl (some ⟨g, 0, none⟩) (some ⟨g, m, none⟩) m c m n 1 _ _ rfl rfl rfl rfl rfl hmn hnc H1.out HA2.out ?_)
    | (with_reducible refine wpl_clearQ one_ad rfl rfl rfl (.tmp 31) rfl g m 1 (c - m) rfl (by decide) cur _ HB.out HFIT.out ?_; intro w2 hb2 hF2))
  go_ret
  exact ⟨rfl, HOWN.out _ hb2, HF.out.trans hF2 (fun _ _ h => h)⟩
end Go.Proofs.Ytpcnnkgfemdnlaa
