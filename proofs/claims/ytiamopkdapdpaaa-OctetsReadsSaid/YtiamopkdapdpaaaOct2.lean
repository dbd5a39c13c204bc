import Derived.Test.YtiamopkdapdpaaaOct1
namespace Go.Proofs.Ytiamopkdapdpaaa
set_option linter.unusedVariables false
open Go.RowKit

/-- A reader at block g, whose bytes lie in block d, has l left. -/
def Rd (w : World) (g : Nat) (d : Option Nat) (l : List UInt8) : Prop := ∃ v, Blk w g 77 #[v] ∧ Seg w 5 v d (cellsB l)

theorem Rd.lt {w : World} {g : Nat} {d : Option Nat} {l : List UInt8} (h : Rd w g d l) : g < w.heap.size := by obtain ⟨_, h, _⟩ := h; exact h.lt

theorem Rd.frm {S : Nat → Prop} {w w' : World} {g : Nat} {d : Option Nat} {l : List UInt8} (h : Rd w g d l) (f : Frm S w w') (hg : ¬ S g) (hd : ∀ k, d = some k → ¬ S k) : Rd w' g d l := by
  obtain ⟨v, h1, h2⟩ := h
  exact ⟨v, h1.frm f hg, h2.frm f hd⟩

/-- What Read tells. -/
def ReadPost (l : List UInt8) (w : World) (e : Ending) (w' : World) : Prop :=
  ∃ g d, e = .returned (.pointer (some ⟨g, 0, none⟩)) ∧ Rd w' g d l ∧ Below w.heap.size w w' ∧ w.heap.size ≤ g ∧ ∀ k, d = some k → w.heap.size ≤ k

set_option maxHeartbeats 400000 in
theorem read_any (A : Option Addr) (n c : Nat) (l : List UInt8) (w : World) (hr : Rds w A n (cellsB l)) (hn : n ≤ 100000) :
    Calls Try.prog 11 #[.slice A n c] w (ReadPost l w) := by
  go_enter Try.func11, Try.ntmps11
  go_wp2_with (go_at_call 30; refine (clone_any A n c l w hr hn).mono ?_; rintro e w1 ⟨A1, c1, rfl, hown, hb⟩)
  go_ret
  exact ⟨w1.heap.size, _, rfl, ⟨_, Blk.new _ _ _, (Seg.of_own hown).frm (S := fun _ => False) (Frm.alloc _ _ _) (fun _ _ h => h)⟩, hb.alloc hb.size _, hb.size, fun k hk => (hown.lt k hk).1⟩

/-- What Bytes tells, where there are enough. -/
def BytesPost (g : Nat) (d : Option Nat) (l : List UInt8) (n : Nat) (w : World) (e : Ending) (w' : World) : Prop :=
  ∃ A c, e = .returned (.tuple #[.slice A n c, .int .i64 0]) ∧ w'.ownsRow w.heap.size 5 1 (.slice A n c) n (cellsB (l.take n)) ∧ Rd w' g d (l.drop n) ∧ Frm (fun k => k = g) w w'

theorem cellsB_take (l : List UInt8) (n : Nat) : (cellsB l).take n = cellsB (l.take n) := by simp [cellsB, List.map_take]
theorem cellsB_drop (l : List UInt8) (n : Nat) : (cellsB l).drop n = cellsB (l.drop n) := by simp [cellsB, List.map_drop]

set_option maxHeartbeats 400000 in
theorem bytes_ok (g : Nat) (d : Option Nat) (l : List UInt8) (n : Int) (w : World) (hr : Rd w g d l) (h0 : 0 ≤ n) (hn : n ≤ l.length) (hl : l.length ≤ 100000) :
    Calls Try.prog 14 #[.pointer (some ⟨g, 0, none⟩), .int .i64 n] w (BytesPost g d l n.toNat w) := by
  have hrc := hr
  obtain ⟨v, hb, hs⟩ := hr
  obtain ⟨A, c, rfl⟩ : ∃ A c, v = .slice A l.length c := by
    obtain ⟨A, c, hv, _⟩ := hs
    exact ⟨A, c, by rw [hv, cellsB_length]⟩
  have hc := hb.cell 0
  have hf := hb.frozen 0
  simp at hc
  have hcap : l.length ≤ c := by obtain ⟨A', c', hv, h1, _⟩ := hs; injection hv with _ _ h3; rw [cellsB_length] at h1; omega
  have hrd : Rds w A n.toNat (cellsB (l.take n.toNat)) := by rw [← cellsB_take]; exact (Seg.rds hs).take _ (by omega)
  have HC := hide (hs.cut n.toNat (by omega))
  have HN : Hid ((cellsB (l.take n.toNat)).length = n.toNat) := by rw [cellsB_length, List.length_take]; exact Nat.min_eq_left (by omega)
  have fin : ∀ (w1 : World) (u : Value), Below w.heap.size w w1 → Seg w 5 u d (cellsB (l.drop n.toNat)) → Rd (w1.setCell ⟨g, 0, none⟩ u) g d (l.drop n.toNat) ∧ Frm (fun k => k = g) w (w1.setCell ⟨g, 0, none⟩ u) := by
    intro w1 u h1 h2
    have hf1 : Frm (fun k => k = g) w w1 := Frm.of_below h1
    have hf2 : Frm (fun _ => False) w w1 := Frm.of_below h1
    have hb1 := hb.frm hf2 (fun h => h)
    exact ⟨⟨u, by simpa using hb1.set 0 u, (h2.frm hf2 (fun _ _ h => h)).set hb1 (by decide) 0 u⟩, hf1.trans (Frm.setCell _ _ _ (fun k => k = g) rfl) (fun _ _ h => h)⟩
  have FIN := hide fin
  clear fin
  go_enter Try.func14, Try.ntmps14
  go_wp2_with (go_at_call 30; refine (clone_any A n.toNat c (l.take n.toNat) w hrd (by omega)).mono ?_; rintro e w1 ⟨A1, c1, rfl, hown, hb1⟩; have hc1 := (hb1.cell hb.lt).trans hc; have hf1 := (hb1.frozen hb.lt).trans hf)
  all_goals
    go_ret2
    have h1 := HC.out
    rw [cellsB_drop] at h1
    simp only [h, if_true, if_false, Nat.sub_self] at h1
    obtain ⟨h2, h3⟩ := FIN.out w1 _ hb1 h1
    rw [HN.out] at hown ⊢
    exact ⟨A1, c1, rfl, own_set hown (hb.frm (S := fun _ => False) (Frm.of_below hb1) (fun h => h)) (by decide) 0 _, h2, h3⟩
end Go.Proofs.Ytiamopkdapdpaaa
