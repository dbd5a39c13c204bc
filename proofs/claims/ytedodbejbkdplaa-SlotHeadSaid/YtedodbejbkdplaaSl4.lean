/-
  By what a node knows a packet, written.
-/
import Derived.Test.YtedodbejbkdplaaSl3
import Derived.Deep.RegionHeld3
namespace Go.Proofs.Ytedodbejbkdplaa
set_option linter.unusedVariables false
set_option linter.unusedSimpArgs false
open Go.RowKit

theorem wr_norm {w : World} {g : Nat} {d : Option Nat} {l : List UInt8} (h : Wr w g d l) : ∃ d', Wr w g d' l ∧ ∀ j, d' = some j → d = some j ∧ j < w.heap.size := by
  obtain ⟨v, hb, ho, hd⟩ := h
  refine ⟨v.ownBlock, ⟨v, hb, ho, .inr rfl⟩, fun j hj => ?_⟩
  rcases hd with hd | hd
  · rw [hd] at hj; cases hj
  · refine ⟨by rw [← hd]; exact hj, ?_⟩
    rcases ho.2 with ⟨rfl, _⟩ | ⟨g', cap, cur, rfl, _, hg, _⟩
    · cases hj
    · have : g' = j := by simpa [Value.ownBlock] using hj
      subst this
      exact (Array.getElem?_eq_some_iff.1 hg).1
/-- One put behind another. -/
theorem Put.step {g : Nat} {d d1 : Option Nat} {l2 : List UInt8} {w w1 w2 : World} (hd1 : d1 = d ∨ ∃ j, d1 = some j ∧ w.heap.size ≤ j) (f1 : Frm (fun k => k = g ∨ some k = d) w w1) (h2 : Put g d1 l2 w1 w2) : Put g d l2 w w2 := by
  obtain ⟨d2, hw, hd2, hf2⟩ := h2
  refine ⟨d2, hw, ?_, f1.trans hf2 (fun i hi h => ?_)⟩
  · rcases hd2 with rfl | ⟨j, rfl, hj⟩
    · exact hd1
    · exact .inr ⟨j, rfl, Nat.le_trans f1.size hj⟩
  · rcases h with h | h
    · exact .inl h
    · rcases hd1 with rfl | ⟨j, rfl, hj⟩
      · exact .inr h
      · injection h with h
        omega
/-- .. behind worlds in which nothing that lay turned. -/
theorem Put.from {g : Nat} {d : Option Nat} {l : List UInt8} {w w1 w2 : World} (f1 : Frm (fun _ => False) w w1) (h2 : Put g d l w1 w2) : Put g d l w w2 :=
  Put.step (.inl rfl) (f1.mono (fun _ _ h => h.elim)) h2
theorem Put.to {g : Nat} {d : Option Nat} {l : List UInt8} {w w1 w2 : World} (h : Put g d l w w1) (f : Frm (fun _ => False) w1 w2) : Put g d l w w2 := by
  obtain ⟨d', h1, h2, h3⟩ := h
  exact ⟨d', h1.frm f (fun h => h) (fun _ _ h => h), h2, h3.trans f (fun _ _ h => h.elim)⟩
theorem Put.keep {g gb : Nat} {d : Option Nat} {l : List UInt8} {w w1 : World} (h : Put g d l w w1) {t : TypeId} {cs : Array Value} (hb : Blk w gb t cs) (h1 : gb ≠ g) (h2 : ∀ j, d = some j → j ≠ gb) : Blk w1 gb t cs := by
  obtain ⟨d', _, _, h3⟩ := h
  exact hb.frm h3 (fun e => e.elim (fun e => h1 e) (fun e => h2 gb e.symm rfl))

set_option maxHeartbeats 4000000 in
set_option maxRecDepth 100000 in
theorem putSeal_any (g : Nat) (d : Option Nat) (l : List UInt8) (who epoch : Nat) (nonce mac : List UInt8) (w : World) (hr : Wr w g d l) (hd : ∀ j, d = some j → j < w.heap.size) (hl : l.length ≤ 90000) (h1 : who < 65536) (h2 : epoch < 4294967296) (hn : nonce.length = 16) (hm : mac.length = 16) :
    Calls Try.prog 35 #[.pointer (some ⟨g, 0, none⟩), .int .u16 (who : Int), .int .u32 (epoch : Int), .agg (cellsB nonce).toArray, .agg (cellsB mac).toArray] w fun e w' => e = .returned (.tuple #[]) ∧ Put g d (l ++ be 2 who ++ be 4 epoch ++ nonce ++ mac) w w' := by
  have HN := hide hn
  have HM := hide hm
  have HD := hide hd
  have HR := hide hr
  have hsn := slN
  have hsm := slM
  clear hn hm hd hr
  go_enter Try.func35, Try.ntmps35
  go_wp2_with (first
    | ((with_reducible refine wpl_boxa (op := ⟨some 8, _, _, _, _, _⟩) rfl _ _ rfl (cellsB nonce) rfl ?_); intro g8 w1 hB1 hg1 hF1)
    | ((with_reducible refine wpl_boxa (op := ⟨some 9, _, _, _, _, _⟩) rfl _ _ rfl (cellsB mac) rfl ?_); intro g9 w2 hB2 hg2 hF2))
  have HF : Hid (Frm (fun _ => False) w w2.drew) := (hF1.trans hF2 (fun _ _ h => h)).drew
  have hR2 : Wr w2.drew g d l := HR.out.frm (S := fun _ => False) HF.out (fun h => h) (fun _ _ h => h)
  have hB8 : Blk w2.drew g8 28 (cellsB nonce).toArray := hB1.frm hF2.drew (fun h => h)
  have hB9 : Blk w2.drew g9 29 (cellsB mac).toArray := hB2
  have HN8 : Hid (g8 ≠ g ∧ ∀ j, d = some j → j ≠ g8) := ⟨by have := HR.out.lt; omega, fun j hj => by have := HD.out j hj; omega⟩
  have HN9 : Hid (g9 ≠ g ∧ ∀ j, d = some j → j ≠ g9) := ⟨by have := HR.out.lt; have := hF1.size; omega, fun j hj => by have := HD.out j hj; have := hF1.size; omega⟩
  have hP0 := hide (Put.refl hR2)
  clear hB1 hB2 hg1 hg2 hF1 hF2 HR HD hR2
  refine wp_region_held_drew (S := fun _ => True) (by kernel_rfl) trivial ?_
  intro hHeld
  refine wpAnyH_take (i := 0) (v := ?v1) rfl (by kernel_rfl) (by kernel_rfl) (by kernel_rfl) (fun _ _ _ h => h) (Or.inl ⟨by rfl, ?hy1⟩) (by assumption) ?rest1
  case hy1 => (intro w hSw; (try go_simp); try with_reducible rfl)
  try simp only [Act.put, List.getElem_toArray, List.getElem_cons_zero, List.getElem_cons_succ, List.setIfInBounds_toArray, List.set_cons_zero, List.set_cons_succ]
  refine wpAnyH_take (i := 1) (v := ?v2) rfl (by kernel_rfl) (by kernel_rfl) (by kernel_rfl) (fun _ _ _ h => h) (Or.inl ⟨by rfl, ?hy2⟩) (by assumption) ?rest2
  case hy2 => (intro w hSw; (try go_simp); try with_reducible rfl)
  try simp only [Act.put, List.getElem_toArray, List.getElem_cons_zero, List.getElem_cons_succ, List.setIfInBounds_toArray, List.set_cons_zero, List.set_cons_succ]
  refine wpAnyH_take (i := 3) (v := ?v3) rfl (by kernel_rfl) (by kernel_rfl) (by kernel_rfl) (fun _ _ _ h => h) (Or.inl ⟨by rfl, ?hy3⟩) (by assumption) ?rest3
  case hy3 => (intro w hSw; (try go_simp); try with_reducible rfl)
  try simp only [Act.put, List.getElem_toArray, List.getElem_cons_zero, List.getElem_cons_succ, List.setIfInBounds_toArray, List.set_cons_zero, List.set_cons_succ]
  refine wpAnyH_take (i := 5) (v := ?v4) rfl (by kernel_rfl) (by kernel_rfl) (by kernel_rfl) (fun _ _ _ h => h) (Or.inl ⟨by rfl, ?hy4⟩) (by assumption) ?rest4
  case hy4 => (intro w hSw; (try go_simp); try with_reducible rfl)
  try simp only [Act.put, List.getElem_toArray, List.getElem_cons_zero, List.getElem_cons_succ, List.setIfInBounds_toArray, List.set_cons_zero, List.set_cons_succ]
  refine wpAnyH_take (i := 7) (v := ?v5) rfl (by kernel_rfl) (by kernel_rfl) (by kernel_rfl) (fun _ _ _ h => h) (Or.inl ⟨by rfl, ?hy5⟩) (by assumption) ?rest5
  case hy5 => (intro w hSw; (try go_simp); try with_reducible rfl)
  try simp only [Act.put, List.getElem_toArray, List.getElem_cons_zero, List.getElem_cons_succ, List.setIfInBounds_toArray, List.set_cons_zero, List.set_cons_succ]
  refine wpAnyH_ready (rs := [2]) (by kernel_rfl) (by simp) ?_
  refine AllReadyH.cons rfl (fun K hK => ?_) AllReadyH.nil
  go_simp
  obtain ⟨d0, hw0, hd0, hf0⟩ := hP0.out
  refine (wu16_any g d0 (l) _ _ hw0 (by (try simp only [List.length_append, be_length]); omega) (by omega) (by omega)).mono ?_
  rintro e w3 ⟨rfl, hp0⟩
  have hP1 := hide (Put.step hd0 hf0 hp0)
  clear hw0 hd0 hf0 hp0
  refine hK.out _ _ (trivial) (fun hHeld => ?_)
  clear hK K
  refine wpAnyH_ready (rs := [4]) (by kernel_rfl) (by simp) ?_
  refine AllReadyH.cons rfl (fun K hK => ?_) AllReadyH.nil
  go_simp
  rw [Int.toNat_natCast] at hP1
  obtain ⟨d1, hw1, hd1, hf1⟩ := hP1.out
  refine (wu32_any g d1 (l ++ be 2 who) _ _ hw1 (by (try simp only [List.length_append, be_length]); omega) (by omega) (by omega)).mono ?_
  rintro e w4 ⟨rfl, hp1⟩
  have hP2 := hide (Put.step hd1 hf1 hp1)
  clear hw1 hd1 hf1 hp1
  refine hK.out _ _ (trivial) (fun hHeld => ?_)
  clear hK K
  refine wpAnyH_ready (rs := [6]) (by kernel_rfl) (by simp) ?_
  refine AllReadyH.cons rfl (fun K hK => ?_) AllReadyH.nil
  go_simp
  rw [Int.toNat_natCast] at hP2
  obtain ⟨d2, hw2, hd2, hf2⟩ := hP2.out
  have hr8 := (hP2.out.keep hB8 HN8.out.1 HN8.out.2).rds
  rw [cellsB_length, HN.out] at hr8
  refine (wbytes_any g d2 (l ++ be 2 who ++ be 4 epoch) nonce (some ⟨g8, 0, none⟩) 16 16 _ hw2 (by (try simp only [List.length_append, be_length]); omega) hr8 (by omega)).mono ?_
  rintro e w5 ⟨rfl, hp2⟩
  have hP3 := hide (Put.step hd2 hf2 hp2)
  clear hw2 hd2 hf2 hp2
  refine hK.out _ _ (trivial) (fun hHeld => ?_)
  clear hK K
  refine wpAnyH_ready (rs := [8]) (by kernel_rfl) (by simp) ?_
  refine AllReadyH.cons rfl (fun K hK => ?_) AllReadyH.nil
  go_simp
  obtain ⟨d3, hw3, hd3, hf3⟩ := hP3.out
  have hr9 := (hP3.out.keep hB9 HN9.out.1 HN9.out.2).rds
  rw [cellsB_length, HM.out] at hr9
  refine (wbytes_any g d3 (l ++ be 2 who ++ be 4 epoch ++ nonce) mac (some ⟨g9, 0, none⟩) 16 16 _ hw3 (by (try simp only [List.length_append, be_length]); have := HN.out; omega) hr9 (by omega)).mono ?_
  rintro e w6 ⟨rfl, hp3⟩
  have hP4 := hide (Put.step hd3 hf3 hp3)
  clear hw3 hd3 hf3 hp3
  refine hK.out _ _ (trivial) (fun hHeld => ?_)
  clear hK K
  refine wpAnyH_done (by kernel_rfl) ?_ _
  clear hHeld
  go_wp2
  exact end0 rfl rfl ⟨rfl, Put.from HF.out hP4.out⟩

end Go.Proofs.Ytedodbejbkdplaa
