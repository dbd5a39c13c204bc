/-
  A directory's bytes.
-/
import Derived.Test.YtjicnfkodieaaaaDoorDr5
import Derived.Test.YtjicnfkodieaaaaDoorDRw
import Derived.Deep.RegionHeld3
namespace Go.Proofs.YtjicnfkodieaaaaDoor
set_option linter.unusedVariables false
set_option linter.unusedSimpArgs false
open Go.RowKit

/-- A record's fourteen bytes. -/
def encR (r : Rec) : List UInt8 := be 2 r.a ++ (be 4 r.f ++ (be 4 r.t ++ be 4 r.l))
def encL (D : List Rec) : List UInt8 := D.flatMap encR
def bytesL (D : List Rec) : List UInt8 := encL D ++ shaL (encL D)
theorem encR_length (r : Rec) : (encR r).length = 14 := by simp [encR, be_length]
theorem encL_length : ∀ D, (encL D).length = 14 * D.length
  | [] => rfl
  | r :: D => by
    have h := encL_length D
    unfold encL at h ⊢
    rw [List.flatMap_cons, List.length_append, encR_length, h, List.length_cons]
    omega
theorem encL_append (l m : List Rec) : encL (l ++ m) = encL l ++ encL m := by simp [encL]
theorem encL_succ (D : List Rec) (k : Nat) (h : k < D.length) : encL (D.take (k + 1)) = (((encL (D.take k) ++ be 2 (D.getD k default).a) ++ be 4 (D.getD k default).f) ++ be 4 (D.getD k default).t) ++ be 4 (D.getD k default).l := by
  have e : D.take (k + 1) = D.take k ++ [D.getD k default] := by
    rw [List.take_succ_eq_append_getElem h, List.getD_eq_getElem?_getD, List.getElem?_eq_getElem h]
    rfl
  rw [e, encL_append]
  simp [encL, encR, List.append_assoc]
theorem bytesL_length (D : List Rec) : (bytesL D).length = 14 * D.length + 32 := by simp [bytesL, encL_length, shaL_length]
theorem zeroW6 : (Tryd.prog.info? 80).map (fun i => i.zero) = some (some (.agg [Value.slice none 0 0].toArray)) := by kernel_rfl

theorem wr_lt {w : World} {g : Nat} {d : Option Nat} {l : List UInt8} (h : Wr w g d l) (hl : 0 < l.length) : ∀ j, d = some j → j < w.heap.size := by
  intro j hj
  obtain ⟨v, hb, ho, hd⟩ := h
  rcases ho.2 with ⟨rfl, h0⟩ | ⟨g', cap, cur, rfl, _, hg, _⟩
  · omega
  · rcases hd with hd | hd
    · cases hd
    · rw [hj] at hd
      have : g' = j := by simpa [Value.ownBlock] using hd
      subst this
      exact (Array.getElem?_eq_some_iff.1 hg).1

theorem wr_norm {w : World} {g : Nat} {d : Option Nat} {l : List UInt8} (h : Wr w g d l) : ∃ d', Wr w g d' l ∧ ∀ j, d' = some j → d = some j ∧ j < w.heap.size := by
  obtain ⟨v, hb, ho, hd⟩ := h
  refine ⟨v.ownBlock, ⟨v, hb, ho, .inr rfl⟩, fun j hj => ?_⟩
  rcases hd with hd | hd
  · rw [hd] at hj; cases hj
  · refine ⟨by rw [← hd]; exact hj, ?_⟩
    rcases ho.2 with ⟨rfl, _⟩ | ⟨g', cap, cur, rfl, _, hg, _⟩
    · cases hj
    · have : g' = j := by simpa [Value.ownBlock] using hj
      subst this
      exact (Array.getElem?_eq_some_iff.1 hg).1
theorem own_base9 {w : World} {B B' n : Nat} {e : TypeId} {v : Value} {xs : List Value} (h : w.ownsRow B e 1 v n xs) (hB : B' ≤ B) : w.ownsRow B' e 1 v n xs := by
  refine ⟨h.1, ?_⟩
  rcases h.2 with h0 | ⟨g, cap, cur, hv, hbs, hr⟩
  · exact .inl h0
  · exact .inr ⟨g, cap, cur, hv, Nat.le_trans hB hbs, hr⟩
theorem own_prt {w : World} {B c : Nat} {A : Option Addr} {l : List UInt8} (h : w.ownsRow B 5 1 (.slice A l.length c) l.length (cellsB l)) : Prt w (.slice A l.length c) l := by
  have hc : l.length ≤ c := by
    rcases h.2 with ⟨hv, h0⟩ | ⟨g', cap, cur, hv, _, hg, h1, _⟩
    · omega
    · injection hv with _ _ h3
      omega
  refine ⟨A, c, rfl, hc, ?_⟩
  have hs := Seg.of_own h
  have e : (cellsB l).length = l.length := cellsB_length l
  have h2 := (Seg.rds (A := A) (n := (cellsB l).length) (c := c) (by rw [e]; exact hs))
  rwa [e] at h2

/-- Where the loop of Bytes stands. -/
structure BytesInv (w : World) (N gw : Nat) (A : Option Addr) (n c : Nat) (D : List Rec) (k : Nat) (wr : World) : Prop where
  wrt : ∃ d, Wr wr gw d (encL (D.take k)) ∧ ∀ j, d = some j → N ≤ j ∧ j < wr.heap.size
  row : ROwn wr w.heap.size A n c D
  bel : Below w.heap.size w wr
  size : N ≤ wr.heap.size
  low : ∀ j, (Value.slice A n c).ownBlock = some j → j < N ∧ j ≠ gw
  gw : w.heap.size ≤ gw ∧ gw < N

theorem cells_keep {w : World} {g : Nat} {x : Rec} (h : Blk w g 37 (recC x).toArray) : w.cell? ⟨g, 0, none⟩ = some (.int .u16 (x.a : Int)) ∧ w.cell? ⟨g, 1, none⟩ = some (.int .u32 (x.f : Int)) ∧ w.cell? ⟨g, 2, none⟩ = some (.int .u32 (x.t : Int)) ∧ w.cell? ⟨g, 3, none⟩ = some (.int .u32 (x.l : Int)) :=
  ⟨h.cell 0, h.cell 1, h.cell 2, h.cell 3⟩

set_option maxHeartbeats 8000000 in
set_option maxRecDepth 100000 in
theorem dbytes_any (g bm : Nat) (D : List Rec) (w : World) (h : Dir w g bm D) (hG : Gl w) (hg0 : 2 ≤ w.heap.size) :
    Calls Tryd.prog 24 #[.pointer (some ⟨g, 0, none⟩)] w (New w.heap.size 5 (cellsB (bytesL D)) w) := by
  have HIN0 : Hid (∀ x ∈ D, x.in32) := fun x hx => (h.ok.ok x hx).in32
  have HLEN := hide h.ok.len
  have HD := hide h
  have HG := hide hG
  clear h hG
  go_enter Tryd.func24, Tryd.ntmps24
  go_wp2_with ((with_reducible refine wpl_alloca (op := ⟨some 3, _, _, _, _, _⟩) rfl _ rfl _ zeroW6 ?_); intro gw w1 hB1 hs1 hF1)
  have hW1 : Wr w1 gw none [] := ⟨.slice none 0 0, hB1, ⟨rfl, .inl ⟨rfl, rfl⟩⟩, .inl rfl⟩
  refine (those_all g bm D w1 (HD.out.frm0 hF1)).mono ?_
  rintro e w2 ⟨A, n, c, rfl, ho, hf⟩
  obtain ⟨N, hN⟩ : ∃ N, N = w2.heap.size := ⟨_, rfl⟩
  have hlen := ho.len
  have hF2 := frm_false_trans hF1 hf
  have hst : BytesInv w N gw A n c D 0 w2 := ⟨⟨none, hW1.frm hf (fun h => h) (fun k hk => by cases hk), fun j hj => by cases hj⟩, ho.base hF1.size, hF2.below (Nat.le_refl _) (fun k hk => hk.elim), by omega,
    fun j hj => ⟨by rw [hN]; exact (ho.ge j hj).2, fun e => by have h1 := (ho.ge j hj).1; have h2 := hW1.lt; omega⟩, hs1, by have := hf.size; have := hW1.lt; omega⟩
  have HST := hide hst
  have HNL := hide hlen
  have hn64 : n ≤ 64 := by have := HLEN.out; omega
  clear hst ho hf hF1 hF2 hW1 hB1 HD hs1 hN hlen
  go_wp2_with fail
  go_loopw [10] (fun i wr => ∃ k : Nat, k ≤ n ∧ i = .int .i64 k ∧ BytesInv w N gw A n c D k wr) (fun i _ => n - (intOf i).toNat)
  case atStart => exact ⟨0, by omega, rfl, HST.out⟩
  case round =>
    clear HST
    obtain ⟨k, hk, rfl, hi⟩ := hrel
    have HI := hide hi
    clear hi
    by_cases hlt : k < n
    · have hlt' : (k : Int) < (n : Int) := by omega
      obtain ⟨gr, rfl, hgr, hgl, hcells⟩ := HI.out.row.cells (by omega)
      rcases HI.out.row.block with ⟨h0, _⟩ | ⟨gr', cur, hA, hB, hg, h1, h2, h3, h4⟩
      · cases h0
      · injection hA with hA
        injection hA with hA
        subst hA
        obtain ⟨x, hx⟩ : ∃ x, x = D.getD k default := ⟨_, rfl⟩
        have HX := hide hx
        have hgB : Blk wr gr 37 cur.toList.toArray := by rw [Array.toArray_toList]; exact hg
        have hxx : (cur.toList.drop (k * 4)).take 4 = recC x := by
          apply List.ext_getElem?
          intro q
          by_cases hq : q < 4
          · have e1 := cellsR_at D k q (by have := HNL.out; omega) hq
            rw [← h4, List.getElem?_take, if_pos (by omega)] at e1
            rw [List.getElem?_take, if_pos hq, List.getElem?_drop, e1, hx]
          · rw [List.getElem?_take, if_neg hq, List.getElem?_eq_none (by rw [recC_length]; omega)]
        have hx2 : k * 4 + 4 ≤ cur.toList.length := by rw [Array.length_toList]; omega
        clear h1 h2 h3 h4 hg hcells hB hx
        go_wp2_with (first
          | (with_reducible refine wpl_loada (op := ⟨some 13, _, _, _, _, _⟩) aggR rfl (.tmp 12) rfl gr (k * 4) rfl _ cur.toList (recC x) hgB hxx hx2 ?_)
          | ((with_reducible refine wpl_alloca (op := ⟨some 5, _, _, _, _, _⟩) rfl _ rfl _ zeroR ?_); intro g5 w5 hB5 hs5 hF5)
          | ((with_reducible refine wpl_storea aggR rfl (.tmp 5) (.tmp 13) rfl g5 (recC x) rfl rfl _ _ hB5 rfl rfl (recC_one x) ?_); intro w6 hB6 hF6))
        have HIN := hide (HIN0.out x (by rw [HX.out, List.getD_eq_getElem?_getD, List.getElem?_eq_getElem (by have := HNL.out; omega)]; exact List.getElem_mem _))
        obtain ⟨d6, hw0, hd0⟩ := HI.out.wrt
        have hF06 := frm_join wr hF5 hF6 (fun i hi => by omega)
        have hgw := HI.out.gw
        have hNs := HI.out.size
        have hW6 : Wr w6.drew gw d6 (encL (D.take k)) := hw0.frm (S := fun _ => False) hF06.out.drew (fun h => h) (fun _ _ h => h)
        have Hd6 : Hid (∀ j, d6 = some j → N ≤ j) := fun j hj => (hd0 j hj).1
        have hb6 : Below w.heap.size w w6.drew := below_frm HI.out.bel (S := fun _ => False) hF06.out.drew HI.out.bel.size (fun _ h => h.elim)
        have ho6 : ROwn w6.drew w.heap.size (some ⟨gr, 0, none⟩) n c D := HI.out.row.frm0 hF06.out.drew
        have hz6 : wr.heap.size ≤ w6.drew.heap.size := hF06.out.size
        have hg6 : Blk w6.drew g5 37 (recC x).toArray := hB6
        have HLOW := hide HI.out.low
        have HGW : Hid (w.heap.size ≤ gw ∧ gw < N) := hgw
        have HEL : Hid ((encL (D.take k)).length ≤ 14 * 64) := by
          show _ ≤ _
          rw [encL_length, List.length_take]
          have := HLEN.out
          omega
        have hg5w : gw < g5 := by omega
        have HG6 : Hid (∀ j, d6 = some j → j ≠ g5) := fun j hj => by have := (hd0 j hj).2; omega
        have HK6 := cells_keep hg6
        have HES := hide (encL_succ D k (by have := HNL.out; omega))
        rw [← HX.out] at HES
        obtain ⟨E, hE⟩ : ∃ E, E = encL (D.take k) := ⟨_, rfl⟩
        rw [← hE] at hW6 HEL HES
        clear hE hB6 hF6 hF5 hB5 hs5 hw0 hd0 hF06 hxx hx2 hgB HI
        refine wp_region_held_drew (S := fun W => W.cell? ⟨g5, 0, none⟩ = some (.int .u16 (x.a : Int)) ∧ W.cell? ⟨g5, 1, none⟩ = some (.int .u32 (x.f : Int)) ∧ W.cell? ⟨g5, 2, none⟩ = some (.int .u32 (x.t : Int)) ∧ W.cell? ⟨g5, 3, none⟩ = some (.int .u32 (x.l : Int))) (by kernel_rfl) (HK6) ?_
        intro hHeld
        refine wpAnyH_take (i := 0) (v := ?v1) rfl (by kernel_rfl) (by kernel_rfl) (by kernel_rfl) (fun _ _ _ h => h) (Or.inl ⟨by rfl, ?hy1⟩) (by assumption) ?rest1
        case hy1 => (intro w hSw; obtain ⟨s0, s1, s2, s3⟩ := hSw; (try go_simp); try with_reducible rfl)
        try simp only [Act.put, List.getElem_toArray, List.getElem_cons_zero, List.getElem_cons_succ, List.setIfInBounds_toArray, List.set_cons_zero, List.set_cons_succ]
        refine wpAnyH_take (i := 1) (v := ?v2) rfl (by kernel_rfl) (by kernel_rfl) (by kernel_rfl) (fun _ _ _ h => h) (Or.inl ⟨by rfl, ?hy2⟩) (by assumption) ?rest2
        case hy2 => (intro w hSw; obtain ⟨s0, s1, s2, s3⟩ := hSw; (try go_simp); try with_reducible rfl)
        try simp only [Act.put, List.getElem_toArray, List.getElem_cons_zero, List.getElem_cons_succ, List.setIfInBounds_toArray, List.set_cons_zero, List.set_cons_succ]
        refine wpAnyH_take (i := 3) (v := ?v3) rfl (by kernel_rfl) (by kernel_rfl) (by kernel_rfl) (fun _ _ _ h => h) (Or.inl ⟨by rfl, ?hy3⟩) (by assumption) ?rest3
        case hy3 => (intro w hSw; obtain ⟨s0, s1, s2, s3⟩ := hSw; (try go_simp); try with_reducible rfl)
        try simp only [Act.put, List.getElem_toArray, List.getElem_cons_zero, List.getElem_cons_succ, List.setIfInBounds_toArray, List.set_cons_zero, List.set_cons_succ]
        refine wpAnyH_take (i := 4) (v := ?v4) rfl (by kernel_rfl) (by kernel_rfl) (by kernel_rfl) (fun _ _ _ h => h) (Or.inl ⟨by rfl, ?hy4⟩) (by assumption) ?rest4
        case hy4 => (intro w hSw; obtain ⟨s0, s1, s2, s3⟩ := hSw; (try go_simp); try with_reducible rfl)
        try simp only [Act.put, List.getElem_toArray, List.getElem_cons_zero, List.getElem_cons_succ, List.setIfInBounds_toArray, List.set_cons_zero, List.set_cons_succ]
        refine wpAnyH_take (i := 6) (v := ?v5) rfl (by kernel_rfl) (by kernel_rfl) (by kernel_rfl) (fun _ _ _ h => h) (Or.inl ⟨by rfl, ?hy5⟩) (by assumption) ?rest5
        case hy5 => (intro w hSw; obtain ⟨s0, s1, s2, s3⟩ := hSw; (try go_simp); try with_reducible rfl)
        try simp only [Act.put, List.getElem_toArray, List.getElem_cons_zero, List.getElem_cons_succ, List.setIfInBounds_toArray, List.set_cons_zero, List.set_cons_succ]
        refine wpAnyH_take (i := 7) (v := ?v6) rfl (by kernel_rfl) (by kernel_rfl) (by kernel_rfl) (fun _ _ _ h => h) (Or.inl ⟨by rfl, ?hy6⟩) (by assumption) ?rest6
        case hy6 => (intro w hSw; obtain ⟨s0, s1, s2, s3⟩ := hSw; (try go_simp); try with_reducible rfl)
        try simp only [Act.put, List.getElem_toArray, List.getElem_cons_zero, List.getElem_cons_succ, List.setIfInBounds_toArray, List.set_cons_zero, List.set_cons_succ]
        refine wpAnyH_take (i := 9) (v := ?v7) rfl (by kernel_rfl) (by kernel_rfl) (by kernel_rfl) (fun _ _ _ h => h) (Or.inl ⟨by rfl, ?hy7⟩) (by assumption) ?rest7
        case hy7 => (intro w hSw; obtain ⟨s0, s1, s2, s3⟩ := hSw; (try go_simp); try with_reducible rfl)
        try simp only [Act.put, List.getElem_toArray, List.getElem_cons_zero, List.getElem_cons_succ, List.setIfInBounds_toArray, List.set_cons_zero, List.set_cons_succ]
        refine wpAnyH_take (i := 10) (v := ?v8) rfl (by kernel_rfl) (by kernel_rfl) (by kernel_rfl) (fun _ _ _ h => h) (Or.inl ⟨by rfl, ?hy8⟩) (by assumption) ?rest8
        case hy8 => (intro w hSw; obtain ⟨s0, s1, s2, s3⟩ := hSw; (try go_simp); try with_reducible rfl)
        try simp only [Act.put, List.getElem_toArray, List.getElem_cons_zero, List.getElem_cons_succ, List.setIfInBounds_toArray, List.set_cons_zero, List.set_cons_succ]
        refine wpAnyH_ready (rs := [2]) (by kernel_rfl) (by simp) ?_
        refine AllReadyH.cons rfl (fun K hK => ?_) AllReadyH.nil
        go_simp
        refine (wu16_any gw d6 (E) _ _ hW6 (by (try simp only [List.length_append, be_length]); have := HEL.out; omega) (by omega) (by have := HIN.out; unfold Rec.in32 at this; omega)).mono ?_
        rintro e w7 ⟨rfl, d7, hW7, hdd7, hf7⟩
        rw [Int.toNat_natCast] at hW7
        have hb7 := below_frm hb6 hf7 hb6.size (fun k hk => by rcases hk with rfl | hk; have := HGW.out; omega; have := Hd6.out k hk.symm; have := HGW.out; omega)
        have hz7 := hf7.size
        have Hd7 : Hid (∀ j, d7 = some j → N ≤ j) := by
          intro j hj
          rcases hdd7 with rfl | ⟨i, rfl, hi⟩
          · exact Hd6.out j hj
          · injection hj with hj; omega
        have HG7 : Hid (∀ j, d7 = some j → j ≠ g5) := by
          intro j hj
          rcases hdd7 with rfl | ⟨i, rfl, hi⟩
          · exact HG6.out j hj
          · injection hj with hj; have := hg6.lt; omega
        have ho7 := ho6.frm hf7 (fun k hk e => by have := HLOW.out k hk; rcases e with rfl | e; omega; have := Hd6.out k e.symm; omega)
        have hg7 : Blk w7 g5 37 (recC x).toArray := hg6.frm hf7 (fun e => by rcases e with rfl | e; omega; exact HG6.out _ e.symm rfl)
        have HK7 := cells_keep hg7
        refine hK.out _ _ (HK7) (fun hHeld => ?_)
        clear hK K
        refine wpAnyH_ready (rs := [5]) (by kernel_rfl) (by simp) ?_
        refine AllReadyH.cons rfl (fun K hK => ?_) AllReadyH.nil
        go_simp
        refine (wu32_any gw d7 (E ++ be 2 x.a) _ _ hW7 (by (try simp only [List.length_append, be_length]); have := HEL.out; omega) (by omega) (by have := HIN.out; unfold Rec.in32 at this; omega)).mono ?_
        rintro e w8 ⟨rfl, d8, hW8, hdd8, hf8⟩
        rw [Int.toNat_natCast] at hW8
        have hb8 := below_frm hb7 hf8 hb7.size (fun k hk => by rcases hk with rfl | hk; have := HGW.out; omega; have := Hd7.out k hk.symm; have := HGW.out; omega)
        have hz8 := hf8.size
        have Hd8 : Hid (∀ j, d8 = some j → N ≤ j) := by
          intro j hj
          rcases hdd8 with rfl | ⟨i, rfl, hi⟩
          · exact Hd7.out j hj
          · injection hj with hj; omega
        have HG8 : Hid (∀ j, d8 = some j → j ≠ g5) := by
          intro j hj
          rcases hdd8 with rfl | ⟨i, rfl, hi⟩
          · exact HG7.out j hj
          · injection hj with hj; have := hg7.lt; omega
        have ho8 := ho7.frm hf8 (fun k hk e => by have := HLOW.out k hk; rcases e with rfl | e; omega; have := Hd7.out k e.symm; omega)
        have hg8 : Blk w8 g5 37 (recC x).toArray := hg7.frm hf8 (fun e => by rcases e with rfl | e; omega; exact HG7.out _ e.symm rfl)
        have HK8 := cells_keep hg8
        refine hK.out _ _ (HK8) (fun hHeld => ?_)
        clear hK K
        refine wpAnyH_ready (rs := [8]) (by kernel_rfl) (by simp) ?_
        refine AllReadyH.cons rfl (fun K hK => ?_) AllReadyH.nil
        go_simp
        refine (wu32_any gw d8 ((E ++ be 2 x.a) ++ be 4 x.f) _ _ hW8 (by (try simp only [List.length_append, be_length]); have := HEL.out; omega) (by omega) (by have := HIN.out; unfold Rec.in32 at this; omega)).mono ?_
        rintro e w9 ⟨rfl, d9, hW9, hdd9, hf9⟩
        rw [Int.toNat_natCast] at hW9
        have hb9 := below_frm hb8 hf9 hb8.size (fun k hk => by rcases hk with rfl | hk; have := HGW.out; omega; have := Hd8.out k hk.symm; have := HGW.out; omega)
        have hz9 := hf9.size
        have Hd9 : Hid (∀ j, d9 = some j → N ≤ j) := by
          intro j hj
          rcases hdd9 with rfl | ⟨i, rfl, hi⟩
          · exact Hd8.out j hj
          · injection hj with hj; omega
        have HG9 : Hid (∀ j, d9 = some j → j ≠ g5) := by
          intro j hj
          rcases hdd9 with rfl | ⟨i, rfl, hi⟩
          · exact HG8.out j hj
          · injection hj with hj; have := hg8.lt; omega
        have ho9 := ho8.frm hf9 (fun k hk e => by have := HLOW.out k hk; rcases e with rfl | e; omega; have := Hd8.out k e.symm; omega)
        have hg9 : Blk w9 g5 37 (recC x).toArray := hg8.frm hf9 (fun e => by rcases e with rfl | e; omega; exact HG8.out _ e.symm rfl)
        have HK9 := cells_keep hg9
        refine hK.out _ _ (HK9) (fun hHeld => ?_)
        clear hK K
        refine wpAnyH_ready (rs := [11]) (by kernel_rfl) (by simp) ?_
        refine AllReadyH.cons rfl (fun K hK => ?_) AllReadyH.nil
        go_simp
        refine (wu32_any gw d9 (((E ++ be 2 x.a) ++ be 4 x.f) ++ be 4 x.t) _ _ hW9 (by (try simp only [List.length_append, be_length]); have := HEL.out; omega) (by omega) (by have := HIN.out; unfold Rec.in32 at this; omega)).mono ?_
        rintro e w10 ⟨rfl, d10, hW10, hdd10, hf10⟩
        rw [Int.toNat_natCast] at hW10
        have hb10 := below_frm hb9 hf10 hb9.size (fun k hk => by rcases hk with rfl | hk; have := HGW.out; omega; have := Hd9.out k hk.symm; have := HGW.out; omega)
        have hz10 := hf10.size
        have Hd10 : Hid (∀ j, d10 = some j → N ≤ j) := by
          intro j hj
          rcases hdd10 with rfl | ⟨i, rfl, hi⟩
          · exact Hd9.out j hj
          · injection hj with hj; omega
        have HG10 : Hid (∀ j, d10 = some j → j ≠ g5) := by
          intro j hj
          rcases hdd10 with rfl | ⟨i, rfl, hi⟩
          · exact HG9.out j hj
          · injection hj with hj; have := hg9.lt; omega
        have ho10 := ho9.frm hf10 (fun k hk e => by have := HLOW.out k hk; rcases e with rfl | e; omega; have := Hd9.out k e.symm; omega)
        have hg10 : Blk w10 g5 37 (recC x).toArray := hg9.frm hf10 (fun e => by rcases e with rfl | e; omega; exact HG9.out _ e.symm rfl)
        have HK10 := cells_keep hg10
        refine hK.out _ _ (HK10) (fun hHeld => ?_)
        clear hK K
        refine wpAnyH_done (by kernel_rfl) ?_ _
        have hlt10 := wr_lt hW10 (by rw [List.length_append, be_length]; omega)
        clear hHeld HK6 HK7 HK8 HK9 HK10 hg6 hg7 hg8 hg9 hg10 ho6 ho7 ho8 ho9 hW6 hW7 hW8 hW9 hdd7 hdd8 hdd9 hdd10 hf7 hf8 hf9 hf10
        go_wp2
        go_roundw
        case rel => exact ⟨k + 1, by omega, by go_num, ⟨⟨d10, by rw [HES.out]; exact hW10, fun j hj => ⟨Hd10.out j hj, hlt10 j hj⟩⟩, ho10, hb10, by omega, HLOW.out, HGW.out⟩⟩
        case measure => simp [intOf]; omega
    · obtain rfl : k = n := by omega
      have hlt' : ¬ (k : Int) < (k : Int) := by omega
      obtain ⟨d0, hw0, hd0⟩ := HI.out.wrt
      obtain ⟨d, hw, hdw⟩ := wr_norm hw0
      have hd : ∀ j, d = some j → N ≤ j ∧ j < wr.heap.size := fun j hj => hd0 j (hdw j hj).1
      clear hw0 hd0 hdw
      rw [List.take_of_length_le (by have := HNL.out; omega)] at hw
      have HBEL := hide HI.out.bel
      have HRG := hide (Run.mk (w0 := w) (HG.out.frm (Frm.of_below (S := fun _ => False) HBEL.out) (fun h => h) (fun h => h)) HBEL.out hg0)
      have HEL : Hid ((encL D).length ≤ 14 * 64) := by show _ ≤ _; rw [encL_length]; have := HLEN.out; omega
      have HLB := bytesL_length D
      have hgw := HI.out.gw
      have hNs := HI.out.size
      have HGW : Hid (w.heap.size ≤ gw ∧ gw < N) := hgw
      have HDL : Hid (∀ j, d = some j → j < wr.heap.size) := fun j hj => (hd j hj).2
      have HDN : Hid (∀ j, d = some j → N ≤ j) := fun j hj => (hd j hj).1
      have HLB := hide HLB
      clear HI hd HG
      go_wp2_with fail
      refine (wdone_any gw d (encL D) wr hw (by have := HEL.out; omega)).mono ?_
      rintro e w3 ⟨A3, c3, rfl, ho3, hb3⟩
      rw [cellsB_length] at ho3 ⊢
      obtain ⟨m, hm⟩ : ∃ m, m = (encL D).length := ⟨_, rfl⟩
      rw [← hm] at ho3 ⊢
      have HM := hide hm
      have hF3 : Frm (fun _ => False) wr w3 := Frm.of_below hb3
      have HR3 := hide (HRG.out.frm hF3 (fun _ h => h.elim))
      have hw3 := hw.frm hF3 (fun h => h) (fun _ _ h => h)
      have hF4 : Frm (fun _ => False) w3 (w3.alloc (.cells #[.slice A3 m c3] 50)) := Frm.alloc _ _ _
      have hP4 : Prt (w3.alloc (.cells #[.slice A3 m c3] 50)) (.slice A3 m c3) (encL D) := by
        have h := own_prt (l := encL D) (by rw [HM.out] at ho3; exact ho3)
        rw [← HM.out] at h
        exact h.below (hF4.below (Nat.le_refl _) (fun _ h => h.elim))
      have hrow4 : Rds (w3.alloc (.cells #[.slice A3 m c3] 50)) (some ⟨w3.heap.size, 0, none⟩) 1 [.slice A3 m c3] := Rds.new1 _ _ _
      have hsum := sums_now w (w3.alloc (.cells #[.slice A3 m c3] 50)) (some ⟨w3.heap.size, 0, none⟩) 1 1 [.slice A3 m c3] [encL D] (encL D) hrow4 (.cons hP4 .nil) (by simp) (HR3.out.frm hF4 (fun _ h => h.elim)) (by have := HEL.out; omega) (by simp)
      have hw4 := hw3.frm hF4 (fun h => h) (fun _ _ h => h)
      obtain ⟨S, hS⟩ : ∃ S, S = shaL (encL D) := ⟨_, rfl⟩
      rw [← hS] at hsum
      have HS := hide hS
      have HSL : Hid (S.length = 32) := by show _ = _; rw [hS, shaL_length]
      have HSC : Hid ((cellsB S).length = 32) := by show _ = _; rw [cellsB_length]; exact HSL.out
      have HZ3 : Hid (wr.heap.size ≤ (w3.alloc (.cells #[.slice A3 m c3] 50)).heap.size) := Nat.le_trans hF3.size hF4.size
      clear hP4 hrow4 hm hS ho3 hw hw3 hF3 hb3
      go_wp2_with fail
      refine hsum.mono ?_
      rintro e w5 ⟨rfl, hF5, hR5⟩
      have hw5 := hw4.frm hF5 (fun h => h) (fun _ _ h => h)
      have HR5 := hide hR5
      have hsl : ∀ (g : Nat) (w : World), Sem.run Tryd.prog (Instr.sliceAt 84 (.pointer (some ⟨g, 0, none⟩)) none none none) w = .ok (.slice (some ⟨g, 0, none⟩) 32 32) w := fun g w => run_slice_arr0 (P := Tryd.prog) (t := 84) (e := 5) (N := 32) under25 size8 g 0 (by omega) w
      have HZ5 : Hid (wr.heap.size ≤ w5.heap.size) := Nat.le_trans HZ3.out hF5.size
      clear hsum hw4 hF4 hF5 hR5 HZ3
      go_wp2_with (first
        | ((with_reducible refine wpl_alloca (op := ⟨some 6, _, _, _, _, _⟩) rfl _ rfl _ zero32 ?_); intro g6 w6 hB6 hs6 hF6)
        | ((with_reducible refine wpl_storea agg32 rfl (.tmp 6) (.tmp 29) rfl g6 (cellsB S) rfl rfl _ _ hB6 HSC.out zero32_size (cellsB_one _) ?_); intro w7 hB7 hF7))
      have hF57 : Frm (fun k => k = g6) w5 w7 := (hF6.mono (T := fun k => k = g6) (fun _ _ h => h.elim)).trans hF7 (fun _ _ h => h)
      have hw7 : Wr w7 gw d (encL D) := (hw5.frm hF6 (fun h => h) (fun _ _ h => h)).frm hF7 (fun e => by have := hw5.lt; omega) (fun j hj e => by
        have h1 := HDL.out j hj
        have h2 := HZ5.out
        omega)
      have hr7 : Rds w7 (some ⟨g6, 0, none⟩) 32 (cellsB S) := by have h := hB7.rds; rw [HSC.out] at h; exact h
      have hR7 := HR5.out.frm hF57 (fun k hk => by have := HR5.out.size; omega)
      have hge7 : w5.heap.size ≤ w7.heap.size := hF57.size
      refine (wbytes_any gw d (encL D) S (some ⟨g6, 0, none⟩) 32 32 w7 hw7 (by have := HEL.out; omega) hr7 (by decide)).mono ?_
      rintro e w8 ⟨rfl, d8, hw8, hdd8, hf8⟩
      have hR8 := hR7.frm hf8 (fun k hk => by rcases hk with rfl | hk; have := HGW.out; omega; have := HDN.out k hk.symm; have := HGW.out; omega)
      rw [HS.out] at hw8
      have HW8 := hide hw8
      have HR8 := hide hR8
      clear hw8 hR8 hdd8 hf8 hR7 hr7 hw7 hF57 hF6 hF7 hB6 hB7 hw5 HR5 HR3 hs6 HS HSC HSL
      go_wp2_with fail
      refine (wdone_any gw d8 _ w8 HW8.out (by have h1 := HEL.out; have h2 := shaL_length (encL D); rw [List.length_append]; omega)).mono ?_
      rintro e w9 ⟨A9, c9, rfl, ho9, hb9⟩
      have HO9 := hide ho9
      have HB9 := hide hb9
      clear ho9 hb9
      go_wp2_with fail
      go_ret
      exact ⟨A9, c9, rfl, own_base9 HO9.out HR8.out.size, HR8.out.below.trans (HB9.out.mono HR8.out.size)⟩
end Go.Proofs.YtjicnfkodieaaaaDoor
