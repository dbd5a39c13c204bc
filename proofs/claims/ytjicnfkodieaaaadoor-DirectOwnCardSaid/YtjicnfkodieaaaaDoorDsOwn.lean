/-
  DirectOwn: the walk.
-/
import Derived.Test.YtjicnfkodieaaaaDoorDsT
import Derived.BigQuiet
import Derived.Deep.MidRow
import Derived.Laws.OwnMore
namespace Go.Proofs.YtjicnfkodieaaaaDoor
set_option linter.unusedVariables false
set_option linter.unusedSimpArgs false
open Go.RowKit

/-- append of a row of records behind an empty one that was made just now. -/
theorem wpl_appW {ops : Array Oper} {rest : List Oper} {op : Oper} {a : Act} {Q : Exit → Act → World → Prop} (hgd : op.guard = none) (s x : Operand)
    (ho : op.op = .call { callee := .builtin .append, args := #[s, x], argTypes := #[22, 22] }) (w : World) (g0 : Nat) (hs : a.eval s = .slice (some ⟨g0, 0, none⟩) 0 0) (h0 : Blk w g0 37 #[])
    (B : Nat) (A : Option Addr) (n c : Nat) (l : List Rec) (hx : a.eval x = .slice A n c) (hown : ROwn w B A n c l) (hn : n ≤ 1000000)
    (h : ∀ A' c' w', ROwn w' g0 A' n c' l → Frm (fun k => k = g0) w w' → wpList Tryd.prog ops Q rest (a.put op.dst (.slice A' n c')) w') : wpList Tryd.prog ops Q (op :: rest) a w := by
  obtain ⟨i, hi, hz, hs', hbb⟩ := info_split infoR
  have hown0 : w.ownsRow g0 37 4 (.slice (some ⟨g0, 0, none⟩) 0 0) 0 [] := ⟨rfl, .inr ⟨g0, 0, #[], rfl, Nat.le_refl _, h0, Nat.le_refl _, Nat.zero_le _, rfl, rfl⟩⟩
  have key : ∃ A' c' w', (Builtin.append_ #[22, 22] op.type #[.slice (some ⟨g0, 0, none⟩) 0 0, .slice A n c]).run Tryd.prog w = .ok (.slice A' n c') w' ∧ ROwn w' g0 A' n c' l ∧ Frm (fun k => k = g0) w w' := by
    have hlen := hown.len
    rcases hown.block with ⟨rfl, rfl, rfl⟩ | ⟨g, cur, rfl, hb, hg, h1, h2, h3, h4⟩
    · refine ⟨_, _, w, run_append_owned_none (P := Tryd.prog) w g0 22 op.type 37 i 4 underR hi _ 0 [] hown0, ?_, Frm.refl _ _⟩
      obtain rfl := List.eq_nil_of_length_eq_zero hlen
      exact hown0
    · have hB : Blk w g 37 cur := hg
      obtain ⟨v', w', h5, h6, h7, _, _⟩ := run_append_own_at (P := Tryd.prog) w g0 22 op.type 37 i (recV default) 4 16 underR hi hz hs' hbb rfl (by omega) _ 0 [] hown0 ⟨g, 0, none⟩ n c (cellsR l) (by rw [cellsR_length, hlen]) (fun j u hu => by
        rw [addr_add, hB.cell]
        rw [← h4, List.getElem?_take] at hu
        split at hu
        · simpa using hu
        · cases hu) (cellsR_one _) (by simp only [maxLen]; omega) (by omega) (by have := h0.lt; omega)
      rw [Nat.zero_add, List.nil_append] at h6
      have hf : ∃ A' c', v' = .slice A' n c' := by
        rcases h6.2 with ⟨rfl, h0⟩ | ⟨g, cap, cur, rfl, _⟩
        · subst h0; exact ⟨_, _, rfl⟩
        · exact ⟨_, _, rfl⟩
      obtain ⟨A', c', rfl⟩ := hf
      exact ⟨A', c', w', h5, h6, (Frm.of_grown h7).mono (fun k _ hk => by simpa [Value.ownBlock] using hk)⟩
  obtain ⟨A', c', w', hrun, h2, h3⟩ := key
  refine wpList_plain hgd fun _ hK => ?_
  unfold Oper.wp execOp
  simp only [ho, resolve, invoke, builtin, Sem.run_bind, Sem.run_pure, Result.andThen_ok, List.map_toArray, List.map_cons, List.map_nil, hs, hx, hrun]
  exact hK _ _ (h A' c' w' h2 h3)

theorem blk_setCells {g : Nat} {t : TypeId} : ∀ (vs : List Value) (o : Nat) (w : World) (cur : Array Value), Blk w g t cur → ∃ cur', Blk (w.setCells g o vs) g t cur' ∧ cur'.size = cur.size ∧ Frm (fun k => k = g) w (w.setCells g o vs)
  | [], o, w, cur, h => ⟨cur, h, rfl, Frm.refl _ _⟩
  | v :: r, o, w, cur, h => by
    obtain ⟨cur', h1, h2, h3⟩ := blk_setCells r (o + 1) (w.setCell ⟨g, o, none⟩ v) _ (h.set o v)
    exact ⟨cur', h1, by rw [h2, Array.size_setIfInBounds], (Frm.setCell w ⟨g, o, none⟩ v (fun k => k = g) rfl).trans h3 (fun i _ hi => hi)⟩
/-- A record into a row. -/
theorem wpl_storez {ops : Array Oper} {rest : List Oper} {op : Oper} {a : Act} {w : World} {Q : Exit → Act → World → Prop} (hgd : op.guard = none) (x y : Operand) (ho : op.op = .store 37 x y)
    (g j : Nat) (cur : Array Value) (r : Rec) (hx : a.eval x = .pointer (some ⟨g, j * 4, none⟩)) (hy : a.eval y = .agg (recC r).toArray) (hb : Blk w g 37 cur) (hj : j * 4 + 4 ≤ cur.size)
    (h : ∀ w' cur', Blk w' g 37 cur' → cur'.size = cur.size → Frm (fun k => k = g) w w' → wpList Tryd.prog ops Q rest (a.put op.dst undef) w') : wpList Tryd.prog ops Q (op :: rest) a w := by
  refine wpList_store_mid hgd _ x y ho g (j * 4) (recC r).toArray hx hy (fun q hq => ⟨?_, hb.frozen _⟩) ?_ (all_oneCell_toArray (recC_one r)) ?_
  · have hq4 : q < 4 := hq
    rw [hb.cell, Array.getElem?_eq_getElem (by omega)]; rfl
  · rw [aggR.2]; rfl
  · obtain ⟨cur', h2, h3, h4⟩ := blk_setCells (recC r).toArray.toList (j * 4) w cur hb
    exact h _ cur' h2 h3 h4
/-- A row of records that may be written, its block from B on and ahead of Z. -/
def WV (w : World) (B Z : Nat) (A : Option Addr) (n : Nat) : Prop := n = 0 ∨ ∃ g cur, A = some ⟨g, 0, none⟩ ∧ B ≤ g ∧ g < Z ∧ Blk w g 37 cur ∧ n * 4 ≤ cur.size
theorem WV.frm0 {w w' : World} {B Z n : Nat} {A : Option Addr} (h : WV w B Z A n) (f : Frm (fun _ => False) w w') : WV w' B Z A n := by
  rcases h with h | ⟨g, cur, h1, h2, h3, h4, h5⟩
  · exact .inl h
  · exact .inr ⟨g, cur, h1, h2, h3, h4.frm f (fun h => h), h5⟩
theorem ROwn.wv {w : World} {B Z n c : Nat} {A : Option Addr} {l : List Rec} (h : ROwn w B A n c l) (hZ : w.heap.size ≤ Z) : WV w B Z A n := by
  rcases h.block with ⟨_, h0, _⟩ | ⟨g, cur, rfl, hb, hg, h1, h2, h3, h4⟩
  · exact .inl h0
  · have hB : Blk w g 37 cur := hg
    exact .inr ⟨g, cur, rfl, hb, Nat.lt_of_lt_of_le hB.lt hZ, hB, by omega⟩
theorem own_blk8 {w : World} {B n c : Nat} {A : Option Addr} {l : List UInt8} (h : w.ownsRow B 5 1 (.slice A n c) n (cellsB l)) (hn : 0 < n) : ∃ g cur, A = some ⟨g, 0, none⟩ ∧ B ≤ g ∧ Blk w g 5 cur ∧ n ≤ cur.size := by
  rcases h.2 with ⟨_, h0⟩ | ⟨g, cap, cur, hv, hb, hg, h1, h2, h3, h4⟩
  · omega
  · injection hv with hA _ hc
    subst hA hc
    exact ⟨g, cur, rfl, hb, hg, by omega⟩

set_option maxHeartbeats 8000000 in
set_option maxRecDepth 100000 in
theorem own_walk (A0 : Option Addr) (n0 c0 : Nat) (L : List Rec) (ep : Nat) (w : World) (hG : Gl w) (hg0 : 2 ≤ w.heap.size)
    (hL : RRow w A0 n0 L) (hc0 : n0 ≤ c0) (hm0 : c0 ≤ 9223372036854775807) (hep : ep < 4294967296) :
    Calls Tryd.prog 10 #[.slice A0 n0 c0, .int .u32 (ep : Int)] w fun e w' => e = .returned (.bool true) ∧ Below w.heap.size w w' := by
  have HL := hide hL
  have HR0 := hide (run_start w hG hg0)
  have HLN : Hid (L.length = n0) := hL.1
  clear hL hG
  go_enter Tryd.func10, Tryd.ntmps10
  go_wp2_with fail
  refine (shown9 w _ HR0.out).mono ?_
  rintro e w1 ⟨rfl, f1⟩
  have HR1 := hide (HR0.out.frm0 f1)
  clear f1 HR0
  go_wp2_with fail
  refine (lnew w w1 HR1.out).mono ?_
  rintro e w2 ⟨g, bm, rfl, h2, f2, hg2, hb2⟩
  have H2 := hide h2
  clear h2 f2 HR1 hg2 hb2
  go_wp2_with fail
  go_loopw [7] (fun i wr => ∃ k : Nat, k ≤ n0 ∧ k ≤ 60 ∧ i = .int .i64 k ∧ Liv w wr g bm (foldL (L.take k))) (fun i _ => 60 - (intOf i).toNat)
  case atStart => exact ⟨0, by omega, by omega, rfl, H2.out⟩
  case round =>
    clear H2
    obtain ⟨k, hk, hk5, rfl, hi⟩ := hrel
    have HI := hide hi
    clear hi
    by_cases hlt : k < n0
    · have hlt' : (k : Int) < (n0 : Int) := by omega
      by_cases h50 : k < 60
      · have h50' : (k : Int) < 60 := by omega
        obtain ⟨p, rfl, hat⟩ := HL.out.at (by omega)
        obtain ⟨x, hx⟩ : ∃ x, x = L.getD k default := ⟨_, rfl⟩
        have HXI : Hid x.in32 := by show _; rw [hx]; exact HL.out.in k hlt
        have hxc := hat wr HI.out.run.below k hlt
        rw [← hx] at hxc
        have HS : Hid (foldL (L.take (k + 1)) = addL (foldL (L.take k)) x) := by show _ = _; rw [foldL_succ L k (by rw [HLN.out]; exact hlt), hx]
        clear hx hat
        go_wp2_with (with_reducible refine wpl_loadr (op := ⟨some 34, _, _, _, _, _⟩) rfl (.tmp 33) rfl (p.add (k * 4)) rfl x hxc ?_)
        refine (ladd HI.out x HXI.out).mono ?_
        rintro e w4 ⟨rfl, h4, f4⟩
        rw [← HS.out] at h4
        have H4 := hide h4
        clear h4 f4 hxc HI
        go_wp2_with fail
        go_roundw
        case rel => exact ⟨k + 1, by omega, by omega, by go_num, H4.out⟩
        case measure => simp [intOf]; omega
      · obtain rfl : k = 60 := by omega
        obtain ⟨D, hD⟩ : ∃ D, D = foldL (L.take 60) := ⟨_, rfl⟩
        have H4 := hide HI.out
        have HDM : Hid (D.length ≤ 60) := by show _ ≤ _; rw [hD]; exact foldL_length L 60
        rw [← hD] at H4
        clear hD HI
        go_wp2_with fail
        have hv := lvalid H4.out ep
        obtain ⟨V, hV⟩ : ∃ V, V = validL D ep := ⟨_, rfl⟩
        have HV := hide hV
        have HVN : Hid (V.length ≤ 60) := by show _ ≤ _; rw [hV]; exact Nat.le_trans (List.length_filter_le _ _) HDM.out
        rw [← hV] at hv
        clear hV
        refine hv.mono ?_
        rintro e w5 ⟨A, n, c, rfl, ho, h5, f5⟩
        have hn64 : n ≤ 60 := by have := ho.len; have := HVN.out; omega
        have HVL : Hid (V.length = n) := ho.len
        have HO5 := hide (ho.base H4.out.run.below.size)
        have H5 := hide h5
        clear ho hv h5 f5 H4
        go_wp2_with (first
          | ((with_reducible refine wpl_appW (op := ⟨some 41, _, _, _, _, _⟩) rfl (.tmp 39) (.tmp 40) rfl _ w5.heap.size rfl (Blk.new _ _ _) _ A n c V rfl (HO5.out.frm0 (Frm.alloc _ _ _)) (by omega) ?_); intro A9 c9 w6 hO6 hF6))
        have hF56 := frm_join w5 (Frm.alloc w5 _ _) hF6 (fun i hi => by omega)
        obtain ⟨Z, hZ⟩ : ∃ Z, Z = w5.heap.size := ⟨_, rfl⟩
        rw [← hZ] at hO6
        have HO9 := hide hO6
        have H6 := hide (H5.out.frm0 hF56.out)
        have HW := hide ((HO5.out.wv (by omega : w5.heap.size ≤ Z)).frm0 hF56.out)
        clear hO6 hF6 hF56 HO5 H5 hZ
        go_wp2_with fail
        go_loopw [10] (fun i wr => ∃ j : Nat, j ≤ n ∧ i = .int .i64 j ∧ Liv w wr g bm D ∧ ROwn wr Z A9 n c9 V ∧ WV wr w.heap.size Z A n) (fun i _ => n - (intOf i).toNat)
        case atStart => exact ⟨0, by omega, rfl, H6.out, HO9.out, HW.out⟩
        case round =>
          clear H6 HO9 HW
          obtain ⟨j, hj, rfl, h7, ho7, hw7⟩ := hrel
          have H7 := hide h7
          have HO7 := hide ho7
          clear h7 ho7
          by_cases hlt2 : j < n
          · have hlt2' : (j : Int) < (n : Int) := by omega
            obtain ⟨gv, cur, rfl, hgB, hgZ, hbv, hsz⟩ := hw7.resolve_left (by omega)
            have HBV := hide hbv
            clear hbv
            go_wp2_with (first
              | ((refine wpl_storez (op := ⟨none, _, _, _, _, _⟩) rfl (.tmp 51) (.tmp 50) rfl gv j cur default rfl rfl HBV.out (by omega) ?_); intro w8 cur8 hb8 hz8 hF8))
            have H8 := hide (H7.out.frm hF8 (fun e => Blk.ne H7.out.dir.blk HBV.out (by decide) e) (fun e => H7.out.dir.map.ne HBV.out e) (fun k hk => by omega))
            have HO8 := hide (HO7.out.frm hF8 (fun k hk e => by have := HO7.out.ge k hk; omega))
            have HW8 : Hid (WV w8 w.heap.size Z (some ⟨gv, 0, none⟩) n) := .inr ⟨gv, cur8, rfl, hgB, hgZ, hb8, by omega⟩
            clear hb8 hF8 H7 HO7 HBV
            go_roundw
            case rel => exact ⟨j + 1, by omega, by go_num, H8.out, HO8.out, HW8.out⟩
            case measure => simp [intOf]; omega
          · obtain rfl : j = n := by omega
            clear hw7
            go_wp2_with fail
            refine (lbytes H7.out).mono ?_
            rintro e w8 ⟨A8, c8, rfl, ho8, h8, f8⟩
            obtain ⟨hr8, hc8⟩ := own_rds8 ho8 rfl
            obtain ⟨gb, curb, rfl, hgb, hbb, hsb⟩ := own_blk8 ho8 (by rw [bytesL_length]; omega)
            have hgb2 : w.heap.size ≤ gb := Nat.le_trans H7.out.run.below.size hgb
            obtain ⟨B, hB⟩ : ∃ B, B = bytesL D := ⟨_, rfl⟩
            have HBX := hide hB
            have HBL : Hid (B.length ≤ 1000) := by show _ ≤ _; rw [hB, bytesL_length]; have := HDM.out; omega
            rw [← hB] at hr8 hsb ⊢
            obtain ⟨n8, hn8⟩ : ∃ n, n = B.length := ⟨_, rfl⟩
            have hn81 : n8 ≤ 1000 := by rw [hn8]; exact HBL.out
            rw [← hn8] at hr8 hsb ⊢
            have hcv : Sem.run Tryd.prog (convert 50 9 (.slice (some ⟨gb, 0, none⟩) n8 c8)) w8 = .ok (.string ⟨B.toArray⟩) w8 := conv_rds _ _ _ 5 Tryd.underlying50 Tryd.underlying5 Tryd.underlying9 (some ⟨gb, 0, none⟩) n8 c8 B hr8
            have H8 := hide h8
            have HO8 := hide (HO7.out.frm0 f8)
            have HB8 := hide hbb
            clear ho8 h8 f8 hr8 hc8 hB hbb hn8 hgb H7 HO7
            go_wp2_with fail
            clear hcv
            go_loopw [13] (fun i wr => ∃ (q : Nat) (cur : Array Value), q ≤ n8 ∧ i = .int .i64 q ∧ Liv w wr g bm D ∧ ROwn wr Z A9 j c9 V ∧ Blk wr gb 5 cur ∧ n8 ≤ cur.size) (fun i _ => n8 - (intOf i).toNat)
            case atStart => exact ⟨0, curb, by omega, rfl, H8.out, HO8.out, HB8.out, hsb⟩
            case round =>
              clear H8 HO8 HB8 hsb
              obtain ⟨q, cur, hq, rfl, h9, ho9, hb9, hs9⟩ := hrel
              have H9 := hide h9
              have HO9 := hide ho9
              have HB9 := hide hb9
              clear h9 ho9 hb9
              by_cases hlt3 : q < n8
              · have hlt3' : (q : Int) < (n8 : Int) := by omega
                obtain ⟨u, hu⟩ : ∃ u, wr.cell? ⟨gb, q, none⟩ = some u := ⟨_, by rw [HB9.out.cell]; exact Array.getElem?_eq_getElem (by omega)⟩
                have hz : wr.frozen? ⟨gb, q, none⟩ = false := HB9.out.frozen q
                have hf9 : Frm (fun k => k = gb) wr (wr.setCell ⟨gb, q, none⟩ (.int .u8 63)) := Frm.setCell _ _ _ _ rfl
                have HX := hide (H9.out.frm hf9 (fun e => Blk.ne H9.out.dir.blk HB9.out (by decide) e) (fun e => H9.out.dir.map.ne HB9.out e) (fun k hk => by omega))
                have HOX := hide (HO9.out.frm hf9 (fun k hk e => HO9.out.ne HB9.out (by decide) (by rw [← e]; exact hk)))
                have HBX9 := hide (HB9.out.set q (.int .u8 63))
                have hsx : n8 ≤ (cur.setIfInBounds q (.int .u8 63)).size := by rw [Array.size_setIfInBounds]; exact hs9
                have HSX := hide hsx
                clear hf9 H9 HO9 HB9 hsx hs9
                go_wp2_with fail
                go_roundw
                case rel => exact ⟨q + 1, _, by omega, by go_num, HX.out, HOX.out, HBX9.out, HSX.out⟩
                case measure => simp [intOf]; omega
              · obtain rfl : q = n8 := by omega
                have hv := lvalid H9.out ep
                rw [← HV.out] at hv
                clear HB9 hs9
                go_wp2_with fail
                refine hv.mono ?_
                rintro e wa ⟨A2, n2, c2, rfl, ho, ha, fa⟩
                obtain rfl : n2 = j := by have := ho.len; have := HVL.out; omega
                have HA := hide ha
                have HOA := hide (HO9.out.frm0 fa)
                have HOV := hide (ho.base (Nat.zero_le _))
                clear hv ho ha fa H9 HO9
                go_wp2_with fail
                refine (lbytes HA.out).mono ?_
                rintro e wb ⟨Ab, cb, rfl, hob, hb, fb⟩
                obtain ⟨hrb, hcb⟩ := own_rds8 hob rfl
                rw [← HBX.out] at hrb ⊢
                obtain ⟨nb, hnb⟩ : ∃ n, n = B.length := ⟨_, rfl⟩
                rw [← hnb] at hrb ⊢
                have hcv : Sem.run Tryd.prog (convert 50 9 (.slice Ab nb cb)) wb = .ok (.string ⟨B.toArray⟩) wb := conv_rds _ _ _ 5 Tryd.underlying50 Tryd.underlying5 Tryd.underlying9 Ab nb cb B hrb
                have HB1 := hide hb
                have HOB := hide (HOA.out.frm0 fb)
                have HOW := hide (HOV.out.frm0 fb)
                clear hob hb fb hrb hcb hnb HA HOA HOV
                go_wp2_with fail
                clear hcv
                go_loopw [15] (fun i wr => ∃ k : Nat, k ≤ n2 ∧ i = .int .i64 k ∧ Liv w wr g bm D ∧ ROwn wr Z A9 n2 c9 V ∧ ROwn wr 0 A2 n2 c2 V) (fun i _ => n2 - (intOf i).toNat)
                case atStart => exact ⟨0, by omega, rfl, HB1.out, HOB.out, HOW.out⟩
                case round =>
                  clear HB1 HOB HOW
                  obtain ⟨k, hk, rfl, hc, ho1, ho2⟩ := hrel
                  have HC := hide hc
                  have HO1 := hide ho1
                  have HO2 := hide ho2
                  clear hc ho1 ho2
                  by_cases hlt4 : k < n2
                  · have hlt4' : (k : Int) < (n2 : Int) := by omega
                    obtain ⟨g1, rfl, _, _, hc1⟩ := HO1.out.cells (by omega)
                    obtain ⟨g2, rfl, _, _, hc2⟩ := HO2.out.cells (by omega)
                    obtain ⟨r, hr⟩ : ∃ r, r = V.getD k default := ⟨_, rfl⟩
                    have hd1 := fun q hq => hc1 k q hlt4 hq
                    have hd2 := fun q hq => hc2 k q hlt4 hq
                    rw [← hr] at hd1 hd2
                    have e0 : ∀ q, (wr.drewN q).cell? ⟨g1, k * 4, none⟩ = some (.int .u16 (r.a : Int)) := fun q => hd1 0 (by decide)
                    have e1 : ∀ q, (wr.drewN q).cell? ⟨g1, k * 4 + 1, none⟩ = some (.int .u32 (r.f : Int)) := fun q => hd1 1 (by decide)
                    have e2 : ∀ q, (wr.drewN q).cell? ⟨g1, k * 4 + 2, none⟩ = some (.int .u32 (r.t : Int)) := fun q => hd1 2 (by decide)
                    have e3 : ∀ q, (wr.drewN q).cell? ⟨g1, k * 4 + 3, none⟩ = some (.int .u32 (r.l : Int)) := fun q => hd1 3 (by decide)
                    have d0 : ∀ q, (wr.drewN q).cell? ⟨g2, k * 4, none⟩ = some (.int .u16 (r.a : Int)) := fun q => hd2 0 (by decide)
                    have d1 : ∀ q, (wr.drewN q).cell? ⟨g2, k * 4 + 1, none⟩ = some (.int .u32 (r.f : Int)) := fun q => hd2 1 (by decide)
                    have d2 : ∀ q, (wr.drewN q).cell? ⟨g2, k * 4 + 2, none⟩ = some (.int .u32 (r.t : Int)) := fun q => hd2 2 (by decide)
                    have d3 : ∀ q, (wr.drewN q).cell? ⟨g2, k * 4 + 3, none⟩ = some (.int .u32 (r.l : Int)) := fun q => hd2 3 (by decide)
                    clear hc1 hc2 hd1 hd2 hr
                    go_wp2_with fail
                    go_quiet (fail)
                    go_wp2_with fail
                    go_roundw
                    case rel => exact ⟨k + 1, by omega, by go_num, HC.out.frm0 ((Frm.refl _ _).drewN _), HO1.out.frm0 ((Frm.refl _ _).drewN _), HO2.out.frm0 ((Frm.refl _ _).drewN _)⟩
                    case measure => simp [intOf]; omega
                  · obtain rfl : k = n2 := by omega
                    have HBEL := hide HC.out.run.below
                    clear HC HO1 HO2
                    go_wp2_with fail
                    go_ret
                    exact ⟨rfl, HBEL.out⟩
    · obtain rfl : k = n0 := by omega
      have hlt' : ¬ (k : Int) < (k : Int) := by omega
      obtain ⟨D, hD⟩ : ∃ D, D = foldL (L.take k) := ⟨_, rfl⟩
      have H4 := hide HI.out
      have HDM : Hid (D.length ≤ 60) := by show _ ≤ _; rw [hD]; exact Nat.le_trans (foldL_length L k) hk5
      rw [← hD] at H4
      clear hD HI
      go_wp2_with fail
      have hv := lvalid H4.out ep
      obtain ⟨V, hV⟩ : ∃ V, V = validL D ep := ⟨_, rfl⟩
      have HV := hide hV
      have HVN : Hid (V.length ≤ 60) := by show _ ≤ _; rw [hV]; exact Nat.le_trans (List.length_filter_le _ _) HDM.out
      rw [← hV] at hv
      clear hV
      refine hv.mono ?_
      rintro e w5 ⟨A, n, c, rfl, ho, h5, f5⟩
      have hn64 : n ≤ 60 := by have := ho.len; have := HVN.out; omega
      have HVL : Hid (V.length = n) := ho.len
      have HO5 := hide (ho.base H4.out.run.below.size)
      have H5 := hide h5
      clear ho hv h5 f5 H4
      go_wp2_with (first
        | ((with_reducible refine wpl_appW (op := ⟨some 41, _, _, _, _, _⟩) rfl (.tmp 39) (.tmp 40) rfl _ w5.heap.size rfl (Blk.new _ _ _) _ A n c V rfl (HO5.out.frm0 (Frm.alloc _ _ _)) (by omega) ?_); intro A9 c9 w6 hO6 hF6))
      have hF56 := frm_join w5 (Frm.alloc w5 _ _) hF6 (fun i hi => by omega)
      obtain ⟨Z, hZ⟩ : ∃ Z, Z = w5.heap.size := ⟨_, rfl⟩
      rw [← hZ] at hO6
      have HO9 := hide hO6
      have H6 := hide (H5.out.frm0 hF56.out)
      have HW := hide ((HO5.out.wv (by omega : w5.heap.size ≤ Z)).frm0 hF56.out)
      clear hO6 hF6 hF56 HO5 H5 hZ
      go_wp2_with fail
      go_loopw [10] (fun i wr => ∃ j : Nat, j ≤ n ∧ i = .int .i64 j ∧ Liv w wr g bm D ∧ ROwn wr Z A9 n c9 V ∧ WV wr w.heap.size Z A n) (fun i _ => n - (intOf i).toNat)
      case atStart => exact ⟨0, by omega, rfl, H6.out, HO9.out, HW.out⟩
      case round =>
        clear H6 HO9 HW
        obtain ⟨j, hj, rfl, h7, ho7, hw7⟩ := hrel
        have H7 := hide h7
        have HO7 := hide ho7
        clear h7 ho7
        by_cases hlt2 : j < n
        · have hlt2' : (j : Int) < (n : Int) := by omega
          obtain ⟨gv, cur, rfl, hgB, hgZ, hbv, hsz⟩ := hw7.resolve_left (by omega)
          have HBV := hide hbv
          clear hbv
          go_wp2_with (first
            | ((refine wpl_storez (op := ⟨none, _, _, _, _, _⟩) rfl (.tmp 51) (.tmp 50) rfl gv j cur default rfl rfl HBV.out (by omega) ?_); intro w8 cur8 hb8 hz8 hF8))
          have H8 := hide (H7.out.frm hF8 (fun e => Blk.ne H7.out.dir.blk HBV.out (by decide) e) (fun e => H7.out.dir.map.ne HBV.out e) (fun k hk => by omega))
          have HO8 := hide (HO7.out.frm hF8 (fun k hk e => by have := HO7.out.ge k hk; omega))
          have HW8 : Hid (WV w8 w.heap.size Z (some ⟨gv, 0, none⟩) n) := .inr ⟨gv, cur8, rfl, hgB, hgZ, hb8, by omega⟩
          clear hb8 hF8 H7 HO7 HBV
          go_roundw
          case rel => exact ⟨j + 1, by omega, by go_num, H8.out, HO8.out, HW8.out⟩
          case measure => simp [intOf]; omega
        · obtain rfl : j = n := by omega
          clear hw7
          go_wp2_with fail
          refine (lbytes H7.out).mono ?_
          rintro e w8 ⟨A8, c8, rfl, ho8, h8, f8⟩
          obtain ⟨hr8, hc8⟩ := own_rds8 ho8 rfl
          obtain ⟨gb, curb, rfl, hgb, hbb, hsb⟩ := own_blk8 ho8 (by rw [bytesL_length]; omega)
          have hgb2 : w.heap.size ≤ gb := Nat.le_trans H7.out.run.below.size hgb
          obtain ⟨B, hB⟩ : ∃ B, B = bytesL D := ⟨_, rfl⟩
          have HBX := hide hB
          have HBL : Hid (B.length ≤ 1000) := by show _ ≤ _; rw [hB, bytesL_length]; have := HDM.out; omega
          rw [← hB] at hr8 hsb ⊢
          obtain ⟨n8, hn8⟩ : ∃ n, n = B.length := ⟨_, rfl⟩
          have hn81 : n8 ≤ 1000 := by rw [hn8]; exact HBL.out
          rw [← hn8] at hr8 hsb ⊢
          have hcv : Sem.run Tryd.prog (convert 50 9 (.slice (some ⟨gb, 0, none⟩) n8 c8)) w8 = .ok (.string ⟨B.toArray⟩) w8 := conv_rds _ _ _ 5 Tryd.underlying50 Tryd.underlying5 Tryd.underlying9 (some ⟨gb, 0, none⟩) n8 c8 B hr8
          have H8 := hide h8
          have HO8 := hide (HO7.out.frm0 f8)
          have HB8 := hide hbb
          clear ho8 h8 f8 hr8 hc8 hB hbb hn8 hgb H7 HO7
          go_wp2_with fail
          clear hcv
          go_loopw [13] (fun i wr => ∃ (q : Nat) (cur : Array Value), q ≤ n8 ∧ i = .int .i64 q ∧ Liv w wr g bm D ∧ ROwn wr Z A9 j c9 V ∧ Blk wr gb 5 cur ∧ n8 ≤ cur.size) (fun i _ => n8 - (intOf i).toNat)
          case atStart => exact ⟨0, curb, by omega, rfl, H8.out, HO8.out, HB8.out, hsb⟩
          case round =>
            clear H8 HO8 HB8 hsb
            obtain ⟨q, cur, hq, rfl, h9, ho9, hb9, hs9⟩ := hrel
            have H9 := hide h9
            have HO9 := hide ho9
            have HB9 := hide hb9
            clear h9 ho9 hb9
            by_cases hlt3 : q < n8
            · have hlt3' : (q : Int) < (n8 : Int) := by omega
              obtain ⟨u, hu⟩ : ∃ u, wr.cell? ⟨gb, q, none⟩ = some u := ⟨_, by rw [HB9.out.cell]; exact Array.getElem?_eq_getElem (by omega)⟩
              have hz : wr.frozen? ⟨gb, q, none⟩ = false := HB9.out.frozen q
              have hf9 : Frm (fun k => k = gb) wr (wr.setCell ⟨gb, q, none⟩ (.int .u8 63)) := Frm.setCell _ _ _ _ rfl
              have HX := hide (H9.out.frm hf9 (fun e => Blk.ne H9.out.dir.blk HB9.out (by decide) e) (fun e => H9.out.dir.map.ne HB9.out e) (fun k hk => by omega))
              have HOX := hide (HO9.out.frm hf9 (fun k hk e => HO9.out.ne HB9.out (by decide) (by rw [← e]; exact hk)))
              have HBX9 := hide (HB9.out.set q (.int .u8 63))
              have hsx : n8 ≤ (cur.setIfInBounds q (.int .u8 63)).size := by rw [Array.size_setIfInBounds]; exact hs9
              have HSX := hide hsx
              clear hf9 H9 HO9 HB9 hsx hs9
              go_wp2_with fail
              go_roundw
              case rel => exact ⟨q + 1, _, by omega, by go_num, HX.out, HOX.out, HBX9.out, HSX.out⟩
              case measure => simp [intOf]; omega
            · obtain rfl : q = n8 := by omega
              have hv := lvalid H9.out ep
              rw [← HV.out] at hv
              clear HB9 hs9
              go_wp2_with fail
              refine hv.mono ?_
              rintro e wa ⟨A2, n2, c2, rfl, ho, ha, fa⟩
              obtain rfl : n2 = j := by have := ho.len; have := HVL.out; omega
              have HA := hide ha
              have HOA := hide (HO9.out.frm0 fa)
              have HOV := hide (ho.base (Nat.zero_le _))
              clear hv ho ha fa H9 HO9
              go_wp2_with fail
              refine (lbytes HA.out).mono ?_
              rintro e wb ⟨Ab, cb, rfl, hob, hb, fb⟩
              obtain ⟨hrb, hcb⟩ := own_rds8 hob rfl
              rw [← HBX.out] at hrb ⊢
              obtain ⟨nb, hnb⟩ : ∃ n, n = B.length := ⟨_, rfl⟩
              rw [← hnb] at hrb ⊢
              have hcv : Sem.run Tryd.prog (convert 50 9 (.slice Ab nb cb)) wb = .ok (.string ⟨B.toArray⟩) wb := conv_rds _ _ _ 5 Tryd.underlying50 Tryd.underlying5 Tryd.underlying9 Ab nb cb B hrb
              have HB1 := hide hb
              have HOB := hide (HOA.out.frm0 fb)
              have HOW := hide (HOV.out.frm0 fb)
              clear hob hb fb hrb hcb hnb HA HOA HOV
              go_wp2_with fail
              clear hcv
              go_loopw [15] (fun i wr => ∃ k : Nat, k ≤ n2 ∧ i = .int .i64 k ∧ Liv w wr g bm D ∧ ROwn wr Z A9 n2 c9 V ∧ ROwn wr 0 A2 n2 c2 V) (fun i _ => n2 - (intOf i).toNat)
              case atStart => exact ⟨0, by omega, rfl, HB1.out, HOB.out, HOW.out⟩
              case round =>
                clear HB1 HOB HOW
                obtain ⟨k, hk, rfl, hc, ho1, ho2⟩ := hrel
                have HC := hide hc
                have HO1 := hide ho1
                have HO2 := hide ho2
                clear hc ho1 ho2
                by_cases hlt4 : k < n2
                · have hlt4' : (k : Int) < (n2 : Int) := by omega
                  obtain ⟨g1, rfl, _, _, hc1⟩ := HO1.out.cells (by omega)
                  obtain ⟨g2, rfl, _, _, hc2⟩ := HO2.out.cells (by omega)
                  obtain ⟨r, hr⟩ : ∃ r, r = V.getD k default := ⟨_, rfl⟩
                  have hd1 := fun q hq => hc1 k q hlt4 hq
                  have hd2 := fun q hq => hc2 k q hlt4 hq
                  rw [← hr] at hd1 hd2
                  have e0 : ∀ q, (wr.drewN q).cell? ⟨g1, k * 4, none⟩ = some (.int .u16 (r.a : Int)) := fun q => hd1 0 (by decide)
                  have e1 : ∀ q, (wr.drewN q).cell? ⟨g1, k * 4 + 1, none⟩ = some (.int .u32 (r.f : Int)) := fun q => hd1 1 (by decide)
                  have e2 : ∀ q, (wr.drewN q).cell? ⟨g1, k * 4 + 2, none⟩ = some (.int .u32 (r.t : Int)) := fun q => hd1 2 (by decide)
                  have e3 : ∀ q, (wr.drewN q).cell? ⟨g1, k * 4 + 3, none⟩ = some (.int .u32 (r.l : Int)) := fun q => hd1 3 (by decide)
                  have d0 : ∀ q, (wr.drewN q).cell? ⟨g2, k * 4, none⟩ = some (.int .u16 (r.a : Int)) := fun q => hd2 0 (by decide)
                  have d1 : ∀ q, (wr.drewN q).cell? ⟨g2, k * 4 + 1, none⟩ = some (.int .u32 (r.f : Int)) := fun q => hd2 1 (by decide)
                  have d2 : ∀ q, (wr.drewN q).cell? ⟨g2, k * 4 + 2, none⟩ = some (.int .u32 (r.t : Int)) := fun q => hd2 2 (by decide)
                  have d3 : ∀ q, (wr.drewN q).cell? ⟨g2, k * 4 + 3, none⟩ = some (.int .u32 (r.l : Int)) := fun q => hd2 3 (by decide)
                  clear hc1 hc2 hd1 hd2 hr
                  go_wp2_with fail
                  go_quiet (fail)
                  go_wp2_with fail
                  go_roundw
                  case rel => exact ⟨k + 1, by omega, by go_num, HC.out.frm0 ((Frm.refl _ _).drewN _), HO1.out.frm0 ((Frm.refl _ _).drewN _), HO2.out.frm0 ((Frm.refl _ _).drewN _)⟩
                  case measure => simp [intOf]; omega
                · obtain rfl : k = n2 := by omega
                  have HBEL := hide HC.out.run.below
                  clear HC HO1 HO2
                  go_wp2_with fail
                  go_ret
                  exact ⟨rfl, HBEL.out⟩
end Go.Proofs.YtjicnfkodieaaaaDoor
