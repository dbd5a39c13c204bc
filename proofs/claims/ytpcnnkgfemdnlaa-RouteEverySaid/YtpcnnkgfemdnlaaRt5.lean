/-
  route: the taker, and each take, by contracts.
-/
import Derived.Test.YtpcnnkgfemdnlaaRt4
namespace Go.Proofs.Ytpcnnkgfemdnlaa
set_option linter.unusedVariables false
open Go.RowKit

/-- What a taker has: how many are left (and one more), the counter, and those that are left. -/
structure Tk (base g8 g5 g3 g c : Nat) (left : List Nat) (w : World) : Prop where
  cnt : Blk w g3 31 #[.int .u64 ((left.length : Int) + 1)]
  fn : Blk w g8 42 #[.func (.func 22) #[] #[.pointer (some ⟨g3, 0, none⟩)]]
  var : Blk w g5 23 #[.slice (some ⟨g, 0, none⟩) left.length c]
  own : w.ownsRow base 25 1 (.slice (some ⟨g, 0, none⟩) left.length c) left.length (cellsI .u16 left)
theorem Tk.frm {base g8 g5 g3 g c : Nat} {left : List Nat} {w w' : World} {S : Nat → Prop} (h : Tk base g8 g5 g3 g c left w) (f : Frm S w w') (h3 : ¬ S g3) (h8 : ¬ S g8) (h5 : ¬ S g5) (hg : ¬ S g) : Tk base g8 g5 g3 g c left w' :=
  ⟨h.cnt.frm f h3, h.fn.frm f h8, h.var.frm f h5, own_frm h.own f (fun k hk => by have : g = k := by simpa [Value.ownBlock] using hk
                                                                                  exact this ▸ hg)⟩

set_option maxHeartbeats 4000000 in
theorem take1_any (base g8 g5 g3 g c : Nat) (left : List Nat) (word : Nat) (w : World) (hT : Tk base g8 g5 g3 g c left w) (h0 : 0 < left.length) (h1 : left.length ≤ 16) (hw : word < 18446744073709551616) :
    Calls Try.prog 20 #[.int .u64 (word : Int), .pointer (some ⟨g8, 0, none⟩), .pointer (some ⟨g5, 0, none⟩)] w fun e w' => e = .returned (.int .u16 ((left.getD (word % left.length) 0 : Nat) : Int)) ∧
      Tk base g8 g5 g3 g c (left.eraseIdx (word % left.length)) w' ∧ Frm (fun k => k = g3 ∨ k = g5 ∨ k = g) w w' := by
  obtain ⟨b3, b8, b5, bo⟩ := hT
  have n38 : g3 ≠ g8 := b3.ne b8 (by decide)
  have n35 : g3 ≠ g5 := b3.ne b5 (by decide)
  have n58 : g5 ≠ g8 := b5.ne b8 (by decide)
  obtain ⟨cur, hb, hl, ht, hnc, hcm, hbg⟩ := own_blk bo
  have n3g : g3 ≠ g := b3.ne hb (by decide)
  have n5g : g5 ≠ g := b5.ne hb (by decide)
  have n8g : g8 ≠ g := b8.ne hb (by decide)
  have hp : word % left.length < left.length := Nat.mod_lt _ h0
  have HEL : Hid ((left.eraseIdx (word % left.length)).length + 1 = left.length) := by show _ = _; rw [List.length_eraseIdx, if_pos hp]; omega
  generalize hn : left.length = n at *
  generalize hpe : word % n = p at *
  have hmod : (word : Int) % (n : Int) = (p : Int) := by rw [← hpe]; rfl
  have HC1 := fun w hb => count1_any g3 ((n : Int) + 1) w (by omega) (by omega) hb
  have hc8 := b8.cell 0
  simp at hc8
  have hn0 : ¬ ((n : Int) = 0) := by omega
  have hcell : cur[p]? = some (.int .u16 ((left.getD p 0 : Nat) : Int)) := by
    have h1 := cellsI_at (k := .u16) left p (by omega)
    rw [← ht, List.getElem?_take, if_pos hp] at h1
    exact h1
  have HCE := hide hcell
  have H3 := hide b3
  have H5 := hide b5
  have H8 := hide b8
  have HO := hide bo
  have HB := hide hb
  clear hcell b3 b5 b8 bo hb hpe ht hl hcm hbg
  have HN := hide hn
  clear hn
  generalize ((left.getD p 0 : Nat) : Int) = x at *
  go_enter Try.func20, Try.ntmps20
  obtain ⟨m, HM⟩ : ∃ m, Hid (m + 1 = n) := ⟨n - 1, by show _ = _; omega⟩
  go_wp2_with (first
    | (go_at_call 22; refine (HC1 _ H3.out).mono ?_; rintro e w1 ⟨rfl, hB1, hF1, hs1⟩; have hB5 := H5.out.frm hF1 (Ne.symm n35); have hc5 := hB5.cell 0; simp at hc5; have hcp := (HB.out.frm hF1 (Ne.symm n3g)).cell p; rw [List.getElem?_toArray, HCE.out] at hcp; have hO1 := own_frm HO.out hF1 (fun k hk => by have e : g = k := (by simpa [Value.ownBlock] using hk); exact e ▸ Ne.symm n3g))
    | (go_at_call 21; refine (delete_any base g n c p left _ hO1 hp (p + 1) rfl m HM.out).mono ?_; rintro e w2 ⟨rfl, hO2, hF2⟩; have hD5 := hB5.frm hF2 n5g; have hd5 := hD5.cell 0; have hf5 := hD5.frozen 0; simp at hd5))
  go_ret
  have HLE : (left.eraseIdx p).length = m := by have := HEL.out; have := HM.out; omega
  have F2 : Frm (fun k => k = g3 ∨ k = g5 ∨ k = g) w w2 := (hF1.mono (T := fun k => k = g3 ∨ k = g5 ∨ k = g) (fun _ _ h => .inl h)).trans hF2 (fun _ _ h => .inr (.inr h))
  have FS := Frm.setCell w2 ⟨g5, 0, none⟩ (.slice (some ⟨g, 0, none⟩) m c) (fun k => k = g5) rfl
  refine ⟨rfl, ⟨?_, ?_, ?_, ?_⟩, F2.trans FS (fun _ _ h => .inr (.inl h))⟩
  · have e1 : ((left.eraseIdx p).length : Int) + 1 = (n : Int) + 1 - 1 := by have := HEL.out; omega
    rw [e1]
    exact (hB1.frm hF2 n3g).frm FS n35
  · exact ((H8.out.frm hF1 (Ne.symm n38)).frm hF2 n8g).frm FS (Ne.symm n58)
  · rw [HLE]
    exact hD5.set 0 _
  · rw [HLE]
    exact own_frm hO2 FS (fun k hk => by have e : g = k := (by simpa [Value.ownBlock] using hk); exact e ▸ Ne.symm n5g)

theorem own_form_some {w : World} {base n c : Nat} {e : TypeId} {A : Option Addr} {xs : List Value} (h : w.ownsRow base e 1 (.slice A n c) n xs) {g : Nat} (hg : (Value.slice A n c).ownBlock = some g) : A = some ⟨g, 0, none⟩ := by
  rcases h.2 with ⟨hv, _⟩ | ⟨g', cap, cur, hv, _⟩
  · rw [hv] at hg; cases hg
  · rw [hv] at hg
    injection hv with hA
    have : g' = g := by simpa [Value.ownBlock] using hg
    rw [hA, this]

structure TkInv (w : World) (g5 g c : Nat) (left : List Nat) (wr : World) : Prop where
  frm : Frm (fun _ => False) w wr
  var : Blk wr g5 23 #[.slice (some ⟨g, 0, none⟩) left.length c]
  own : wr.ownsRow w.heap.size 25 1 (.slice (some ⟨g, 0, none⟩) left.length c) left.length (cellsI .u16 left)
theorem TkInv.add {w wr w2 : World} {g5 g c n : Nat} {left : List Nat} {x : Nat} {A1 : Option Addr} {c1 : Nat} (h : TkInv w g5 g c left wr) (hn : n = left.length) (h5 : w.heap.size ≤ g5) (o : Obj)
    (hown : w2.ownsRow w.heap.size 25 1 (.slice A1 (n + 1) c1) (n + 1) (cellsI .u16 left ++ [.int .u16 (x : Int)])) (hg : (wr.alloc o).grownBy w2 (Value.slice (some ⟨g, 0, none⟩) n c).ownBlock)
    (hat : (Value.slice A1 (n + 1) c1).ownBlock = (Value.slice (some ⟨g, 0, none⟩) n c).ownBlock ∨ (Value.slice A1 (n + 1) c1).ownBlock = some (wr.heap.size + 1)) :
    ∃ g', A1 = some ⟨g', 0, none⟩ ∧ TkInv w g5 g' c1 (left ++ [x]) (w2.setCell ⟨g5, 0, none⟩ (.slice A1 (n + 1) c1)) ∧ (∃ v, w2.cell? ⟨g5, 0, none⟩ = some v) ∧ w2.frozen? ⟨g5, 0, none⟩ = false := by
  subst hn
  have hb1 : Blk w2 g5 23 #[.slice (some ⟨g, 0, none⟩) left.length c] := Blk.grown (w := wr.alloc o) (h.var.frm (Frm.alloc _ _ (fun _ => False)) (fun h => h)) (own_frm h.own (Frm.alloc _ _ (fun _ => False)) (fun _ _ h => h)) (by decide) hg
  obtain ⟨g', hg'⟩ : ∃ g', (Value.slice A1 (left.length + 1) c1).ownBlock = some g' := by
    rcases hat with h | h
    · exact ⟨g, h⟩
    · exact ⟨_, h⟩
  have hA := own_form_some hown hg'
  subst hA
  have hb2 : Blk (w2.setCell ⟨g5, 0, none⟩ (.slice (some ⟨g', 0, none⟩) (left.length + 1) c1)) g5 23 #[.slice (some ⟨g', 0, none⟩) (left.length + 1) c1] := hb1.set 0 _
  have hgb := (own_ge h.own g rfl).1
  refine ⟨g', rfl, ⟨?_, ?_, ?_⟩, ?_, hb1.frozen 0⟩
  · have F1 : Frm (fun k => k = g ∨ k = g5) w w2 := (h.frm.mono (T := fun k => k = g ∨ k = g5) (fun _ _ h => h.elim)).trans ((Frm.alloc wr o (fun k => k = g)).trans (Frm.of_grown hg) (fun i _ hi => by simpa [Value.ownBlock] using hi)) (fun _ _ h => .inl h)
    have F2 := F1.trans (Frm.setCell w2 ⟨g5, 0, none⟩ (.slice (some ⟨g', 0, none⟩) (left.length + 1) c1) (fun k => k = g5) rfl) (fun _ _ h => .inr h)
    exact F2.mono (fun i hi h => by rcases h with h | h <;> omega)
  · rw [List.length_append]
    exact hb2
  · rw [List.length_append, cellsI_append]
    exact own_set hown hb1 (by decide) 0 _
  · have := hb1.cell 0
    exact ⟨_, by simpa using this⟩

set_option maxHeartbeats 4000000 in
theorem taker_any (A : Option Addr) (n c : Nat) (nodes : List Nat) (last : Nat) (w : World) (hA : Rds w A n (cellsI .u16 nodes)) (hn : n ≤ 16) (hl : (others nodes last).length + 1 = n) :
    Calls Try.prog 15 #[.slice A n c, .int .u16 (last : Int)] w fun e w' => ∃ g8 g5 g3 g c', e = .returned (.func (.func 20) #[] #[.pointer (some ⟨g8, 0, none⟩), .pointer (some ⟨g5, 0, none⟩)]) ∧
      Tk w.heap.size g8 g5 g3 g c' (others nodes last) w' ∧ w.heap.size ≤ g8 ∧ w.heap.size ≤ g5 ∧ w.heap.size ≤ g3 ∧ Frm (fun _ => False) w w' := by
  have hal : nodes.length = n := by have := hA.1; rwa [cellsI_length] at this
  have Hal := hide hal
  have HA := hide hA
  have HL := hide hl
  have hmf := make_func
  have hni : (n : Int) ≤ 16 := by omega
  clear hA hal hl
  go_enter Try.func15, Try.ntmps15
  go_wp2_with (with_reducible refine wpl_make0 one_ad rfl _ (.tmp 10) rfl (n : Int) n rfl rfl rfl (by omega) (by decide) ?_; intro gm w1 hO1 hg1 hF1)
  have HI0 : Hid (TkInv w w1.heap.size gm n (others (nodes.take 0) last) (w1.alloc (.cells #[.slice (some ⟨gm, 0, none⟩) 0 n] 23))) := by
    have FA := Frm.alloc w1 (.cells #[.slice (some ⟨gm, 0, none⟩) 0 n] 23) (fun _ => False)
    exact ⟨hF1.trans FA (fun _ _ h => h), Blk.new _ _ _, own_frm hO1 FA (fun _ _ h => h)⟩
  have hs1 : w.heap.size ≤ w1.heap.size := hF1.size
  generalize w1.alloc (.cells #[.slice (some ⟨gm, 0, none⟩) 0 n] 23) = W1 at *
  generalize w1.heap.size = g5 at *
  clear hO1 hg1 hF1
  go_loopw [14] (fun i wr => ∃ (k g c : Nat), k ≤ n ∧ i = .int .i64 k ∧ TkInv w g5 g c (others (nodes.take k) last) wr) (fun i _ => n - (intOf i).toNat)
  case atStart => exact ⟨0, gm, n, by omega, rfl, HI0.out⟩
  case round =>
    clear HI0
    obtain ⟨k, g, c1, hk, rfl, hi⟩ := hrel
    have HI := hide hi
    clear hi
    by_cases hlt : k < n
    · have hki : (k : Int) < (n : Int) := by omega
      obtain ⟨pa, rfl, hca⟩ := HA.out.2 (by omega)
      have ca := cell_frm HI.out.frm (hca k _ (cellsI_at nodes k (by rw [Hal.out]; exact hlt))) (fun h => h)
      have hT : nodes.take (k + 1) = nodes.take k ++ [nodes.getD k 0] := by rw [List.take_succ_eq_append_getElem (by rw [Hal.out]; exact hlt), List.getD_eq_getElem?_getD, List.getElem?_eq_getElem (by rw [Hal.out]; exact hlt)]; rfl
      have HO := hide (others_snoc (nodes.take k) last (nodes.getD k 0))
      rw [← hT] at HO
      have hll : (others (nodes.take k) last).length ≤ 16 := Nat.le_trans (List.length_filter_le _ _) (by rw [List.length_take]; omega)
      clear hca hT
      generalize others (nodes.take k) last = left at *
      generalize nodes.getD k 0 = x at *
      by_cases hx : x = last
      · subst hx
        have HS : Hid (others (nodes.take (k + 1)) x = left) := by
          have := HO.out
          rw [if_pos rfl, List.append_nil] at this
          exact this
        clear HO
        go_wp2_with fail
        go_roundw
        case rel => exact ⟨k + 1, g, c1, by omega, by go_num, by rw [HS.out]; exact HI.out⟩
        case measure => simp [intOf]; omega
      · have hxi : ¬ ((x : Int) = (last : Int)) := by omega
        have HS : Hid (others (nodes.take (k + 1)) last = left ++ [x]) := by
          have := HO.out
          rw [if_neg hx] at this
          exact this
        have h5c := HI.out.var.cell 0
        simp at h5c
        generalize hln : left.length = ln at *
        have HLN := hide hln
        have hO := own_frm HI.out.own (Frm.alloc wr (.cells #[.int .u16 (x : Int)] 25) (fun _ => False)) (fun _ _ h => h)
        rw [hln] at hO
        have hR := Rds.new1 wr 25 (.int .u16 (x : Int))
        have hsz : w.heap.size ≤ (wr.alloc (.cells #[.int .u16 (x : Int)] 25)).heap.size := by have := HI.out.frm.size; simp; omega
        clear HO hx hln
        go_wp2_with (at_builtin; with_reducible refine wpl_app one_ad rfl (.tmp 21) (.tmp 23) rfl _ w.heap.size (.slice (some ⟨g, 0, none⟩) ln c1) ln (cellsI .u16 left) rfl hO _ 1 1 [.int .u16 (x : Int)] rfl hR (one1 _ _) (by omega) (by omega) hsz ?_; intro A2 c2 w2 hown2 hg2 hat2; rw [World.size_alloc] at hat2; obtain ⟨g', rfl, HJ, ⟨v5, hv5⟩, hf5⟩ := TkInv.add HI.out HLN.out.symm hs1 _ hown2 hg2 hat2)
        go_roundw
        case rel => exact ⟨k + 1, g', c2, by omega, by go_num, by rw [HS.out]; exact HJ⟩
        case measure => simp [intOf]; omega
    · obtain rfl : k = n := by omega
      have hki : ¬ ((k : Int) < (k : Int)) := by omega
      rw [List.take_of_length_le (by rw [Hal.out]; exact Nat.le_refl _)] at HI
      go_wp2_with (go_at_call 17; refine (counter_any _ _ (by omega) (by omega)).mono ?_; rintro e w2 ⟨rfl, rfl⟩)
      go_ret
      have hsz := HI.out.frm.size
      have F1 := Frm.alloc wr (.cells #[.int .u64 (k : Int)] 31) (fun _ => False)
      have F2 := Frm.alloc (wr.alloc (.cells #[.int .u64 (k : Int)] 31)) (.cells #[.func (.func 22) #[] #[.pointer (some ⟨wr.heap.size, 0, none⟩)]] 42) (fun _ => False)
      have F12 := F1.trans F2 (fun _ _ h => h)
      refine ⟨_, _, wr.heap.size, g, c1, rfl, ⟨?_, ?_, HI.out.var.frm F12 (fun h => h), own_frm HI.out.own F12 (fun _ _ h => h)⟩, by omega, hs1, hsz, HI.out.frm.trans F12 (fun _ _ h => h)⟩
      · have e1 : ((others nodes last).length : Int) + 1 = (k : Int) := by have := HL.out; omega
        rw [e1]
        exact (Blk.new wr _ _).frm F2 (fun h => h)
      · have := Blk.new (wr.alloc (.cells #[.int .u64 (k : Int)] 31)) 42 #[.func (.func 22) #[] #[.pointer (some ⟨wr.heap.size, 0, none⟩)]]
        rwa [World.size_alloc] at this
end Go.Proofs.Ytpcnnkgfemdnlaa
