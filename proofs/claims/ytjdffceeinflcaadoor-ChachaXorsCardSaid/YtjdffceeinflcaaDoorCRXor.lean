/-
  The document's Xor.
-/
import Derived.Test.YtjdffceeinflcaaDoorCh9
import Derived.Test.YtjdffceeinflcaaDoorGenT
import Derived.Deep.RegionHeld
namespace Go.Proofs.YtjdffceeinflcaaDoor
set_option linter.unusedVariables false
open Go.RowKit

theorem take_snoc (l : List UInt8) (k : Nat) (h : k < l.length) : l.take (k + 1) = l.take k ++ [l.getD k 0] := by
  rw [List.take_succ_eq_append_getElem h, List.getD_eq_getElem?_getD, List.getElem?_eq_getElem h]
  rfl

set_option maxHeartbeats 4000000 in
theorem rxor_any (p q : List UInt8) (w : World) (hp : p.length ≤ 100000) (hq : q.length ≤ 100000) :
    Calls Tryd.prog 16 #[.string ⟨p.toArray⟩, .string ⟨q.toArray⟩] w fun e w' => e = .returned (.string ⟨(xorB p q).toArray⟩) ∧ Below w.heap.size w w' := by
  obtain ⟨n, hn⟩ : ∃ n, n = p.length := ⟨_, rfl⟩
  obtain ⟨m, hm⟩ : ∃ m, m = q.length := ⟨_, rfl⟩
  have hsp : (⟨p.toArray⟩ : ByteArray).size = n := by rw [txt_size, hn]
  have hsq : (⟨q.toArray⟩ : ByteArray).size = m := by rw [txt_size, hm]
  obtain ⟨T, hT⟩ : ∃ T, T = xorB p q := ⟨_, rfl⟩
  have HTL : Hid (T.length = min n m) := by show _ = _; rw [hT, xorB_length, hn, hm]
  have HTA : Hid (∀ k, k < n → k < m → T.getD k 0 = p.getD k 0 ^^^ q.getD k 0) := fun k h1 h2 => by rw [hT, List.getD_eq_getElem?_getD, xorB_at p q k (by omega) (by omega)]; rfl
  have HIP : Hid (∀ k, k < n → ∀ w, Sem.run Tryd.prog (Instr.index 9 (.string ⟨p.toArray⟩) (.int .i64 (k : Int))) w = .ok (.int .u8 ((p.getD k 0).toNat : Int)) w) := fun k hk w => str_index p k (by omega) w
  have HIQ : Hid (∀ k, k < m → ∀ w, Sem.run Tryd.prog (Instr.index 9 (.string ⟨q.toArray⟩) (.int .i64 (k : Int))) w = .ok (.int .u8 ((q.getD k 0).toNat : Int)) w) := fun k hk w => str_index q k (by omega) w
  rw [← hT]
  have HNP : n ≤ 100000 := by omega
  have HMQ : m ≤ 100000 := by omega
  clear hT hn hm hp hq
  generalize (⟨p.toArray⟩ : ByteArray) = sp at *
  generalize (⟨q.toArray⟩ : ByteArray) = sq at *
  go_enter Tryd.func16, Tryd.ntmps16
  go_wp2_with fail
  go_loopw [5, 6] (fun t i wr => ∃ k : Nat, k ≤ n ∧ k ≤ m ∧ i = .int .i64 k ∧ t = .string ⟨(T.take k).toArray⟩ ∧ Below w.heap.size w wr) (fun _ i _ => n - (intOf i).toNat)
  case atStart => exact ⟨0, by omega, by omega, rfl, rfl, Below.refl _ _⟩
  case round =>
    obtain ⟨k, hk, hk2, rfl, rfl, hbel⟩ := hrel
    by_cases hlt : k < n
    · by_cases hlt2 : k < m
      · have i1 : (k : Int) < (n : Int) := by omega
        have i2 : (k : Int) < (m : Int) := by omega
        have hip := HIP.out k hlt
        have hiq := HIQ.out k hlt2
        have hx := byte_xor (p.getD k 0) (q.getD k 0)
        have hta := HTA.out k hlt hlt2
        have hadd : (⟨(T.take k).toArray⟩ ++ ⟨#[T.getD k 0]⟩ : ByteArray) = ⟨(T.take (k + 1)).toArray⟩ := by
          rw [take_snoc T k (by rw [HTL.out]; omega)]
          exact txt_append (T.take k) [T.getD k 0]
        have hsz : (⟨(T.take k).toArray⟩ : ByteArray).size ≤ 100000 := by rw [txt_size, List.length_take]; omega
        have hs1 : (⟨#[T.getD k 0]⟩ : ByteArray).size = 1 := rfl
        rw [← hta] at hx
        have hcv : ∀ W : World, Sem.run Tryd.prog (convert 29 9 (.slice (some ⟨W.heap.size, 0, none⟩) 1 1)) (W.alloc (.cells #[.int .u8 ((T.getD k 0).toNat : Int)] 5)) = .ok (.string ⟨#[T.getD k 0]⟩) (W.alloc (.cells #[.int .u8 ((T.getD k 0).toNat : Int)] 5)) := fun W => conv_rds _ _ _ 5 under24 under5 under9 _ 1 1 [T.getD k 0] (Rds.new1 _ _ _)
        have HBD : Hid (Below w.heap.size w wr.drew) := ⟨hbel.os, hbel.tape, hbel.output, hbel.size, hbel.block⟩
        clear hbel hta
        generalize (⟨#[T.getD k 0]⟩ : ByteArray) = s1 at *
        generalize (⟨(T.take k).toArray⟩ : ByteArray) = s0 at *
        obtain ⟨s2, hs2⟩ : ∃ s2, s2 = (⟨(T.take (k + 1)).toArray⟩ : ByteArray) := ⟨_, rfl⟩
        rw [← hs2] at hadd
        have HS2 := hide hs2
        clear hs2
        generalize ((T.getD k 0).toNat : Int) = z at *
        generalize ((p.getD k 0).toNat : Int) = zp at *
        generalize ((q.getD k 0).toNat : Int) = zq at *
        go_wp2_with fail
        refine wp_region_held_drew (S := fun _ => True) (by kernel_rfl) (True.intro) ?_
        intro hHeld
        obtain ⟨W0, hW0⟩ : ∃ W', W' = wr.drew := ⟨_, rfl⟩
        rw [← hW0] at HBD ⊢
        clear hW0
        refine wpAnyH_take (i := 0) (v := ?v1) rfl (by kernel_rfl) (by kernel_rfl) (by kernel_rfl) (fun _ _ _ h => h) (Or.inl ⟨by rfl, ?hy1⟩) (by assumption) ?rest1
        case hy1 => (intro w hSw; (try dsimp only at hSw); go_simp; try with_reducible rfl)
        try simp only [Act.put, List.getElem_toArray, List.getElem_cons_zero, List.setIfInBounds_toArray, List.set_cons_zero, List.set_cons_succ]
        refine wpAnyH_take (i := 1) (v := ?v2) rfl (by kernel_rfl) (by kernel_rfl) (by kernel_rfl) (fun _ _ _ h => h) (Or.inl ⟨by rfl, ?hy2⟩) (by assumption) ?rest2
        case hy2 => (intro w hSw; (try dsimp only at hSw); go_simp; try with_reducible rfl)
        try simp only [Act.put, List.getElem_toArray, List.getElem_cons_zero, List.getElem_cons_succ, List.setIfInBounds_toArray, List.set_cons_zero, List.set_cons_succ]
        refine wpAnyH_take (i := 2) (v := ?v3) rfl (by kernel_rfl) (by kernel_rfl) (by kernel_rfl) (fun _ _ _ h => h) (Or.inl ⟨by rfl, ?hy3⟩) (by assumption) ?rest3
        case hy3 => (intro w hSw; (try dsimp only at hSw); go_simp; try with_reducible rfl)
        try simp only [Act.put, List.getElem_toArray, List.getElem_cons_zero, List.getElem_cons_succ, List.setIfInBounds_toArray, List.set_cons_zero, List.set_cons_succ]
        refine wpAnyH_take (i := 3) (v := ?v4) rfl (by kernel_rfl) (by kernel_rfl) (by kernel_rfl) (fun _ _ _ h => h) (Or.inl ⟨by rfl, ?hy4⟩) (by assumption) ?rest4
        case hy4 => (intro w hSw; (try dsimp only at hSw); go_simp; try with_reducible rfl)
        try simp only [Act.put, List.getElem_toArray, List.getElem_cons_zero, List.getElem_cons_succ, List.setIfInBounds_toArray, List.set_cons_zero, List.set_cons_succ]
        refine wpAnyH_take (i := 4) (v := ?v5) rfl (by kernel_rfl) (by kernel_rfl) (by kernel_rfl) (fun _ _ _ h => h) (Or.inl ⟨by rfl, ?hy5⟩) (by assumption) ?rest5
        case hy5 => (intro w hSw; (try dsimp only at hSw); go_simp; try with_reducible rfl)
        try simp only [Act.put, List.getElem_toArray, List.getElem_cons_zero, List.getElem_cons_succ, List.setIfInBounds_toArray, List.set_cons_zero, List.set_cons_succ]
        refine wpAnyH_take (i := 5) (v := ?v6) rfl (by kernel_rfl) (by kernel_rfl) (by kernel_rfl) (fun _ _ _ h => h) (Or.inl ⟨by rfl, ?hy6⟩) (by assumption) ?rest6
        case hy6 => (intro w hSw; (try dsimp only at hSw); go_simp; try with_reducible rfl)
        try simp only [Act.put, List.getElem_toArray, List.getElem_cons_zero, List.getElem_cons_succ, List.setIfInBounds_toArray, List.set_cons_zero, List.set_cons_succ]
        refine wpAnyH_take (i := 6) (v := ?v7) rfl (by kernel_rfl) (by kernel_rfl) (by kernel_rfl) (fun _ _ _ h => h) (Or.inl ⟨by rfl, ?hy7⟩) (by assumption) ?rest7
        case hy7 => (intro w hSw; (try dsimp only at hSw); go_simp; try with_reducible rfl)
        try simp only [Act.put, List.getElem_toArray, List.getElem_cons_zero, List.getElem_cons_succ, List.setIfInBounds_toArray, List.set_cons_zero, List.set_cons_succ]
        refine wpAnyH_take (i := 7) (v := ?v8) rfl (by kernel_rfl) (by kernel_rfl) (by kernel_rfl) (fun _ _ _ h => h) (Or.inl ⟨by rfl, ?hy8⟩) (by assumption) ?rest8
        case hy8 => (intro w hSw; (try dsimp only at hSw); go_simp; try with_reducible rfl)
        try simp only [Act.put, List.getElem_toArray, List.getElem_cons_zero, List.getElem_cons_succ, List.setIfInBounds_toArray, List.set_cons_zero, List.set_cons_succ]
        refine wpAnyH_ready (rs := [8]) (by kernel_rfl) (by simp) ?_
        refine AllReadyH.cons rfl (fun K hK => ?_) AllReadyH.nil
        go_simp
        refine hK.out _ _ (True.intro) (fun hHeld => ?_)
        clear hK K
        try simp only [Act.put, List.getElem_toArray, List.getElem_cons_zero, List.getElem_cons_succ, List.setIfInBounds_toArray, List.set_cons_zero, List.set_cons_succ]
        have hcv0 := hcv W0
        refine wpAnyH_ready (rs := [9]) (by kernel_rfl) (by simp) ?_
        refine AllReadyH.cons rfl (fun K hK => ?_) AllReadyH.nil
        go_simp
        refine hK.out _ _ (True.intro) (fun hHeld => ?_)
        clear hK K
        try simp only [Act.put, List.getElem_toArray, List.getElem_cons_zero, List.getElem_cons_succ, List.setIfInBounds_toArray, List.set_cons_zero, List.set_cons_succ]
        refine wpAnyH_take (i := 10) (v := ?v9) rfl (by kernel_rfl) (by kernel_rfl) (by kernel_rfl) (fun _ _ _ h => h) (Or.inl ⟨by rfl, ?hy9⟩) (by assumption) ?rest9
        case hy9 => (intro w hSw; go_simp; rw [if_neg (by omega)])
        try simp only [Act.put, List.getElem_toArray, List.getElem_cons_zero, List.getElem_cons_succ, List.setIfInBounds_toArray, List.set_cons_zero, List.set_cons_succ]
        refine wpAnyH_take (i := 11) (v := ?v10) rfl (by kernel_rfl) (by kernel_rfl) (by kernel_rfl) (fun _ _ _ h => h) (Or.inl ⟨by rfl, ?hy10⟩) (by assumption) ?rest10
        case hy10 => (intro w hSw; (try dsimp only at hSw); go_simp; try with_reducible rfl)
        try simp only [Act.put, List.getElem_toArray, List.getElem_cons_zero, List.getElem_cons_succ, List.setIfInBounds_toArray, List.set_cons_zero, List.set_cons_succ]
        refine wpAnyH_done (by kernel_rfl) ?_ _
        have HB1 := hide (HBD.out.alloc HBD.out.size (.cells #[.int .u8 z] 5))
        go_wp2_with fail
        go_roundw
        case rel => first | exact ⟨k + 1, by omega, by omega, by go_num, by rw [HS2.out], HB1.out⟩ | ((repeat apply Exists.intro); exact ⟨⟨k + 1, by omega, by omega, by go_num, by rw [HS2.out], HB1.out⟩, rfl⟩)
        case measure => simp [intOf]; omega
      · obtain rfl : k = m := by omega
        have i1 : (k : Int) < (n : Int) := by omega
        rw [List.take_of_length_le (by rw [HTL.out]; omega)]
        have HB := hide hbel
        clear hbel
        go_wp2_with fail
        go_ret
        exact ⟨rfl, HB.out⟩
    · obtain rfl : k = n := by omega
      rw [List.take_of_length_le (by rw [HTL.out]; omega)]
      have HB := hide hbel
      clear hbel
      go_wp2_with fail
      go_ret
      exact ⟨rfl, HB.out⟩
end Go.Proofs.YtjdffceeinflcaaDoor
