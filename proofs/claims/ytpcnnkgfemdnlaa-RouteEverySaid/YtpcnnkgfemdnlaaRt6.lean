/-
  route: Draw by a contract: the fault, or the route; what lay when the call began lies as it lay.
-/
import Derived.Test.YtpcnnkgfemdnlaaRt5
import Derived.OwnWalk
namespace Go.Proofs.Ytpcnnkgfemdnlaa
set_option linter.unusedVariables false
open Go.RowKit

/-- What Draw answers: a row of its own, how many words it took, and which fault there was. -/
def Ans (w : World) (L : List Nat) (used err : Int) (e : Ending) (w' : World) : Prop :=
  ∃ A c, e = .returned (.tuple #[.slice A L.length c, .int .i64 used, .int .i64 err]) ∧ w'.ownsRow w.heap.size 25 1 (.slice A L.length c) L.length (cellsI .u16 L) ∧ Below w.heap.size w w'
theorem Ans.nil {w w' : World} (err : Int) (h : Below w.heap.size w w') : Ans w [] 0 err (.returned (.tuple #[.slice none 0 0, .int .i64 0, .int .i64 err])) w' := ⟨none, 0, rfl, own_nil _ _ _, h⟩

set_option maxHeartbeats 4000000 in
theorem draw_bad (A B : Option Addr) (nw ca n cb : Nat) (nodes : List Nat) (hops : Int) (last : Nat) (f : Int) (w : World) (hB : Rds w B n (cellsI .u16 nodes)) (hn : n ≤ 1000000) (hw : nw ≤ 1000000) (hF : Fault nw nodes hops last f) :
    Calls Try.prog 9 #[.slice A nw ca, .slice B n cb, .int .i64 hops, .int .u16 (last : Int)] w (Ans w [] 0 f) := by
  have HF := fault_bad A B nw ca n cb nodes hops last f w hB hn hw hF
  have h1 : ¬ (f = 0) := by have := hF.pos; omega
  clear hF hB
  go_enter Try.func9, Try.ntmps9
  go_wp2_with (go_at_call 14; refine HF.mono ?_; rintro e w1 ⟨rfl, q, rfl⟩)
  go_ret3
  exact Ans.nil f (below_drewN (Below.refl _ _) _)

/-- Behind k takes. -/
structure DInv (w : World) (g8 g5 g3 g c : Nat) (A : Option Addr) (k cr : Nat) (out left : List Nat) (wr : World) : Prop where
  tk : Tk w.heap.size g8 g5 g3 g c left wr
  own : wr.ownsRow w.heap.size 25 1 (.slice A k cr) k (cellsI .u16 out)
  ne : (Value.slice A k cr).ownBlock ≠ some g
  below : Below w.heap.size w wr
theorem DInv.take {w wr w1 : World} {g8 g5 g3 g c : Nat} {A : Option Addr} {k cr : Nat} {out left left' : List Nat} (h : DInv w g8 g5 g3 g c A k cr out left wr) (hT : Tk w.heap.size g8 g5 g3 g c left' w1)
    (hF : Frm (fun j => j = g3 ∨ j = g5 ∨ j = g) wr w1) (b3 : w.heap.size ≤ g3) (b5 : w.heap.size ≤ g5) : DInv w g8 g5 g3 g c A k cr out left' w1 := by
  refine ⟨hT, own_frm h.own hF (fun j hj hS => ?_), h.ne, h.below.trans (hF.below h.below.size (fun j hj => ?_))⟩
  · rcases hS with rfl | rfl | rfl
    · exact own_ne h.own h.tk.cnt (by decide) hj
    · exact own_ne h.own h.tk.var (by decide) hj
    · exact h.ne hj
  · rcases hj with rfl | rfl | rfl
    · exact b3
    · exact b5
    · exact (own_ge h.tk.own _ rfl).1
theorem DInv.add {w w1 w2 : World} {g8 g5 g3 g c : Nat} {A A2 : Option Addr} {k cr c2 x : Nat} {out left : List Nat} (h : DInv w g8 g5 g3 g c A k cr out left w1) (o : Obj)
    (hown : w2.ownsRow w.heap.size 25 1 (.slice A2 (k + 1) c2) (k + 1) (cellsI .u16 out ++ [.int .u16 (x : Int)])) (hg : (w1.alloc o).grownBy w2 (Value.slice A k cr).ownBlock)
    (hat : (Value.slice A2 (k + 1) c2).ownBlock = (Value.slice A k cr).ownBlock ∨ (Value.slice A2 (k + 1) c2).ownBlock = some (w1.heap.size + 1)) : DInv w g8 g5 g3 g c A2 (k + 1) c2 (out ++ [x]) left w2 := by
  have F : Frm (fun j => some j = (Value.slice A k cr).ownBlock) w1 w2 := (Frm.alloc w1 o (fun j => some j = (Value.slice A k cr).ownBlock)).trans (Frm.of_grown hg) (fun _ _ h => h)
  refine ⟨h.tk.frm F (fun e => own_ne h.own h.tk.cnt (by decide) e.symm) (fun e => own_ne h.own h.tk.fn (by decide) e.symm) (fun e => own_ne h.own h.tk.var (by decide) e.symm) (fun e => h.ne e.symm), ?_, ?_, ?_⟩
  · rw [cellsI_append]
    exact hown
  · rcases hat with e | e
    · rw [e]; exact h.ne
    · rw [e]
      intro e2
      have := (own_ge h.tk.own g rfl).2
      injection e2 with e2
      omega
  · exact h.below.trans (F.below h.below.size (fun j hj => (own_ge h.own j hj.symm).1))

set_option maxHeartbeats 4000000 in
theorem draw_fine (A B : Option Addr) (nw ca n cb : Nat) (ws nodes : List Nat) (hops : Int) (last : Nat) (w : World) (hA : Rds w A nw (cellsI .u64 ws)) (hu : ∀ x ∈ ws, x < 18446744073709551616) (hB : Rds w B n (cellsI .u16 nodes)) (hw : nw ≤ 1000000) (hF : Fine nw nodes hops last) :
    Calls Try.prog 9 #[.slice A nw ca, .slice B n cb, .int .i64 hops, .int .u16 (last : Int)] w (Ans w (routeL ws nodes hops last) (hops - 1) 0) := by
  have HFF := fault_fine A B nw ca n cb nodes hops last w hB hw hF
  have hnl : nodes.length = n := by have := hB.1; rwa [cellsI_length] at this
  have hwl : ws.length = nw := by have := hA.1; rwa [cellsI_length] at this
  obtain ⟨f0, f1, f2, f3, f4, f5, f6⟩ := hF
  rw [hnl] at f2 f5
  have hol : (others nodes last).length + 1 = n := by rw [others_length f3 f4, hnl]; have : 0 < nodes.length := List.length_pos_of_mem f4; omega
  have HTK := fun w hB => taker_any B n cb nodes last w hB f2 hol
  obtain ⟨m, hm⟩ : ∃ m : Nat, (m : Int) = hops - 1 := ⟨(hops - 1).toNat, by omega⟩
  have HL : Hid (∀ i, i ≤ m → (lefts ws (others nodes last) i).length = (others nodes last).length - i) := fun i hi => lefts_length ws _ i (by omega)
  have HOL := hide (outs_length ws (others nodes last))
  have HOS := hide (outs_succ ws (others nodes last))
  have HLS := hide (lefts_succ ws (others nodes last))
  have HRT : Hid (routeL ws nodes hops last = outs ws (others nodes last) m ++ [last]) := by show _ = _; rw [routeL, ← hm]; rfl
  have HRL : Hid ((routeL ws nodes hops last).length = m + 1) := by show _ = _; rw [routeL, List.length_append, outs_length, ← hm]; rfl
  have H0 : Hid (outs ws (others nodes last) 0 = [] ∧ lefts ws (others nodes last) 0 = others nodes last) := ⟨rfl, rfl⟩
  have hh : hops = (m : Int) + 1 := by omega
  subst hh
  have hm4 : m ≤ 4 := by omega
  have hmw : m ≤ nw := by omega
  have HW : Hid (∀ W, Below w.heap.size w W → ∀ i, i < m → ∃ pa, A = some pa ∧ W.cell? (pa.add i) = some (.int .u64 ((ws.getD i 0 : Nat) : Int))) := by
    intro W hW i hi
    obtain ⟨pa, rfl, hc⟩ := hA.2 (by omega)
    have h := hc i _ (cellsI_at ws i (by omega))
    exact ⟨pa, rfl, by rw [hW.cell (World.block_lt_of_cell? _ _ h)]; exact h⟩
  have HU : Hid (∀ i, i < m → ws.getD i 0 < 18446744073709551616) := by
    intro i hi
    refine hu _ ?_
    rw [List.getD_eq_getElem?_getD, List.getElem?_eq_getElem (by omega)]
    exact List.getElem_mem _
  have HOLN := hide hol
  have HMN : Hid (m + 1 ≤ n) := by show _ ≤ _; omega
  have HB := hide hB
  clear hA hu hB hnl hwl f3 f4 f5 f6 hol hm f0 f1
  generalize others nodes last = O at *
  generalize routeL ws nodes ((m : Int) + 1) last = R at *
  go_enter Try.func9, Try.ntmps9
  go_wp2_with (first
    | (go_at_call 14; refine HFF.mono ?_; rintro e w1 ⟨rfl, q, rfl⟩)
    | (go_at_call 15; refine (HTK _ (HB.out.frm0 ((Frm.refl _ _).drewN q))).mono ?_; rintro e w2 ⟨g8, g5, g3, g, c', rfl, hT2, hs8, hs5, hs3, hF2⟩)
    | (with_reducible refine wpl_make0 one_ad rfl _ (.tmp 29) rfl ((m : Int) + 1) (m + 1) rfl rfl rfl (by omega) (by decide) ?_; intro gm w3 hO3 hg3 hF3))
  have hsd : (w.drewN q).heap.size = w.heap.size := rfl
  rw [hsd] at hT2 hs8 hs5 hs3
  have hF02 : Frm (fun _ => False) w w2 := ((Frm.refl _ w).drewN q).trans hF2 (fun _ _ h => h)
  have HD0 : Hid (DInv w g8 g5 g3 g c' (some ⟨gm, 0, none⟩) 0 (m + 1) (outs ws O 0) (lefts ws O 0) w3) := by
    rw [H0.out.1, H0.out.2]
    refine ⟨hT2.frm hF3 (fun h => h) (fun h => h) (fun h => h) (fun h => h), own_base hO3 hF02.size, ?_, (hF02.trans hF3 (fun _ _ h => h)).below (Nat.le_refl _) (fun _ h => h.elim)⟩
    intro e
    have e : gm = g := by simpa [Value.ownBlock] using e
    have := (own_ge hT2.own g rfl).2
    omega
  clear hT2 hO3 hg3 hF3 hF2 hF02 HFF HTK HB hsd
  go_loopw [14, 32] (fun v i wr => ∃ (k : Nat) (A1 : Option Addr) (cr : Nat), k ≤ m ∧ i = .int .i64 k ∧ v = .slice A1 k cr ∧ DInv w g8 g5 g3 g c' A1 k cr (outs ws O k) (lefts ws O k) wr) (fun _ i _ => m - (intOf i).toNat)
  case atStart => exact ⟨0, _, _, by omega, rfl, rfl, HD0.out⟩
  case round =>
    clear HD0
    obtain ⟨k, A1, cr, hk, rfl, rfl, hD⟩ := hrel
    have HD := hide hD
    clear hD
    by_cases hlt : k < m
    · have hki : (k : Int) < (m : Int) := by omega
      have hkw : (k : Int) < (nw : Int) := by omega
      have hkn : k < nw := by omega
      obtain ⟨pa, rfl, hcw⟩ := HW.out wr HD.out.below k hlt
      have HS1 := hide (HOS.out k)
      have HS2 := hide (HLS.out k)
      have HTT : Hid (Calls Try.prog 20 #[.int .u64 ((ws.getD k 0 : Nat) : Int), .pointer (some ⟨g8, 0, none⟩), .pointer (some ⟨g5, 0, none⟩)] wr fun e w' => ∃ x : Nat, e = .returned (.int .u16 (x : Int)) ∧ outs ws O (k + 1) = outs ws O k ++ [x] ∧
          DInv w g8 g5 g3 g c' A1 k cr (outs ws O k) (lefts ws O (k + 1)) w') := by
        refine (take1_any w.heap.size g8 g5 g3 g c' (lefts ws O k) (ws.getD k 0) wr HD.out.tk (by have := HL.out k (by omega); have := HOLN.out; have := HMN.out; omega) (by have := HL.out k (by omega); have := HOLN.out; omega) (HU.out k hlt)).mono ?_
        rintro e w' ⟨rfl, hT, hF⟩
        rw [← HS2.out] at hT
        exact ⟨_, rfl, HS1.out, HD.out.take hT hF hs3 hs5⟩
      generalize ws.getD k 0 = word at *
      clear HS1 HS2 HD
      go_wp2_with (first
        | (go_at_call 20; refine HTT.out.mono ?_; rintro e w4 ⟨x, rfl, hx, hD4⟩; have HX := hide hx; have HD4 := hide hD4; have hO4 := own_frm hD4.own (Frm.alloc w4 (.cells #[.int .u16 (x : Int)] 25) (fun _ => False)) (fun _ _ h => h); have hR4 := Rds.new1 w4 25 (.int .u16 (x : Int)); have hsz : w.heap.size ≤ (w4.alloc (.cells #[.int .u16 (x : Int)] 25)).heap.size := (by have := hD4.below.size; simp; omega); clear hx hD4)
        | (at_builtin; with_reducible refine wpl_app one_ad rfl (.tmp 35) (.tmp 42) rfl _ w.heap.size (.slice A1 k cr) k _ rfl hO4 _ 1 1 [.int .u16 (x : Int)] rfl hR4 (one1 _ _) (by omega) (by omega) hsz ?_; intro A5 c5 w5 hown5 hg5 hat5; rw [World.size_alloc] at hat5; have HD5 := hide (DInv.add HD4.out _ hown5 hg5 hat5)))
      go_roundw
      case rel => exact ⟨k + 1, A5, c5, by omega, by go_num, rfl, by rw [HX.out]; exact HD5.out⟩
      case measure => simp [intOf]; omega
    · obtain rfl : k = m := by omega
      have hki : ¬ ((k : Int) < (k : Int)) := by omega
      have hO4 := own_frm HD.out.own (Frm.alloc wr (.cells #[.int .u16 (last : Int)] 25) (fun _ => False)) (fun _ _ h => h)
      have hR4 := Rds.new1 wr 25 (.int .u16 (last : Int))
      have hsz : w.heap.size ≤ (wr.alloc (.cells #[.int .u16 (last : Int)] 25)).heap.size := by have := HD.out.below.size; simp; omega
      go_wp2_with (at_builtin; with_reducible refine wpl_app one_ad rfl (.tmp 45) (.tmp 47) rfl _ w.heap.size (.slice A1 k cr) k _ rfl hO4 _ 1 1 [.int .u16 (last : Int)] rfl hR4 (one1 _ _) (by omega) (by omega) hsz ?_; intro A5 c5 w5 hown5 hg5 hat5; rw [World.size_alloc] at hat5; have HD5 := hide (DInv.add HD.out _ hown5 hg5 hat5))
      go_ret3
      unfold Ans
      rw [HRL.out]
      refine ⟨A5, c5, rfl, ?_, HD5.out.below⟩
      rw [HRT.out]
      exact HD5.out.own
end Go.Proofs.Ytpcnnkgfemdnlaa
