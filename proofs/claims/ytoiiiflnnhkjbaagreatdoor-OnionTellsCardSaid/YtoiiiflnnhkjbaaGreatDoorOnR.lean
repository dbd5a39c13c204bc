/-
  Rounds of a loop over a function: what a region does outside of a round it does in one; slices.Backward by a contract.
-/
import Derived.Test.YtoiiiflnnhkjbaaGreatDoorOnH
import Derived.RangeFuncNested
import Derived.RangeFuncCalls
import Derived.RangeFuncLeaves
import Derived.Shelf.Abstract
import Derived.OwnWalkIn
import Derived.TacticsInMore
import Derived.LoopNIn
import Derived.LoopIn
import Derived.OrdersIn
import Derived.Deep.RegionHeld
namespace Go.Proofs.YtoiiiflnnhkjbaaGreatDoor
set_option linter.unusedVariables false
set_option linter.unusedSimpArgs false
open Go.RowKit

def plainO (o : Oper) : Bool := match o.op with
  | .defer _ => false
  | _ => true
theorem plainO_ne {o : Oper} (h : plainO o = true) : ∀ c, o.op ≠ .defer c := by
  intro c hc
  simp [plainO, hc] at h
section
variable {P : Program} {r n : Nat} {Q : Exit → Act → World → Prop} {a : Act} {w : World}
theorem opIn_of_wp {o : Oper} (hd : plainO o = true) {K : Act → World → Prop} (h : o.wp P a w K Q) : o.wpIn (Fence.wide.inRound r) n P a w K Q := by
  refine ⟨fun _ _ => trivial, ?_⟩
  rw [Oper.semAt_eq _ _ _ (plainO_ne hd)]
  unfold Oper.wp at h
  generalize (execOp a.eval o).run P w = R at *
  cases R with
  | ok x w' =>
    cases x <;> simp only [Oper.upon, Oper.uponIn] at h ⊢
    case value => exact h
    case skip => exact h
    case defer => exact h
    case enter => exact ⟨fun h => (by simp [Fence.wide] at h), CallsIn.inRound r (callsIn_wide.2 h)⟩
    case row =>
      refine ⟨fun h => (by simp [Fence.wide] at h), fun c cs _ => ?_⟩
      obtain ⟨v, w', hr, s⟩ := h c cs
      exact ⟨v, w', hr, stepsIn_wide.2 s⟩
  | halt x w' => cases x <;> exact h
theorem listIn_of_wpList {ops : Array Oper} (hq : ¬ LetsOut Q) : ∀ {l : List Oper}, l.all plainO = true → ∀ {a : Act} {w : World}, wpList P ops Q l a w → wpListIn (Fence.wide.inRound r) n P ops Q l a w
  | [], _, _, _, h => h
  | o :: l, hd, a, w, h => by
    simp only [List.all_cons, Bool.and_eq_true] at hd
    simp only [wpList, wpListIn] at h ⊢
    split
    · rename_i hw
      rw [if_pos hw] at h
      exact opIn_of_wp hd.1 (Oper.wp_mono (fun a w h => listIn_of_wpList hq hd.2 h) (h.resolve_right (fun x => hq x.2)))
    · rename_i hw
      rw [if_neg hw] at h
      exact ⟨fun _ _ => trivial, listIn_of_wpList hq hd.2 h⟩
theorem anyIn_of_wpAny {ops : Array Oper} {md : Region.Mode} (hq : ¬ LetsOut Q) (hd : ops.all plainO = true) : ∀ (fuel : Nat) {listed : Array Bool} {a : Act} {w : World}, wpAny P md ops Q fuel listed a w → wpAnyIn (Fence.wide.inRound r) n P md ops Q fuel listed a w
  | 0, _, _, _, h => h
  | fuel + 1, listed, a, w, h => by
    refine ⟨h.1, fun i hi => ?_⟩
    have h1 := h.2 i hi
    unfold wpOp at h1
    unfold wpOpIn
    cases ho : ops[i]? with
    | none =>
      simp only [ho] at h1 ⊢
      exact anyIn_of_wpAny hq hd fuel h1
    | some o =>
      simp only [ho] at h1 ⊢
      have hp : plainO o = true := by
        have := Array.all_eq_true_iff_forall_mem.1 hd o (Array.mem_of_getElem? ho)
        exact this
      split
      · rename_i hw
        rw [if_pos hw] at h1
        exact opIn_of_wp hp (Oper.wp_mono (fun a w h => anyIn_of_wpAny hq hd fuel h) (h1.resolve_right (fun x => hq x.2)))
      · rename_i hw
        rw [if_neg hw] at h1
        exact ⟨fun _ _ => trivial, anyIn_of_wpAny hq hd fuel h1⟩
/-- A region, in a round. -/
theorem region_round {id : Nat} {l : List Oper} (hq : ¬ LetsOut Q) (hd : l.all plainO = true) (h : wpList P l.toArray Q l a w) : (Code.region id l.toArray false).wpIn (Fence.wide.inRound r) n P Q a w :=
  wpIn_region_lit (listIn_of_wpList hq hd h)
/-- A region that draws its order, in a round. -/
theorem region_held_round {id : Nat} {ops : Array Oper} {S : World → Prop} (hq : ¬ LetsOut Q) (hd : ops.toList.all plainO = true) (hm : P.follows .mixedOrders = true) (hS : S w.drew)
    (h : S w.drew → wpAnyH P .any ops Q S ops.size (Array.replicate ops.size false) a w.drew) : (Code.region id ops true).wpIn (Fence.wide.inRound r) n P Q a w :=
  wpIn_region_any hm (anyIn_of_wpAny hq (by rw [← Array.all_toList]; exact hd) _ (wpAny_of_held _ _ _ _ (h hS)))
end

theorem getD_ok {hs : List HopL} (hok : ∀ h ∈ hs, h.ok) (k : Nat) : (hs.getD k hop0).ok := by
  rcases Nat.lt_or_ge k hs.length with h | h
  · exact hok _ (hop_mem h)
  · rw [List.getD_eq_getElem?_getD, List.getElem?_eq_none h]; exact hop0_ok
/-- What a round is handed: a number and a hop. -/
abbrev Item := { x : Nat × HopL // x.2.ok }
def itemV (x : Item) : Array Value := #[.int .i64 (x.1.1 : Int), .agg (hopC x.1.2).toArray]
/-- The last k hops, the last one first. -/
def backU (hs : List HopL) (hok : ∀ h ∈ hs, h.ok) : Nat → List Item
  | 0 => []
  | k + 1 => backU hs hok k ++ [⟨(hs.length - 1 - k, hs.getD (hs.length - 1 - k) hop0), getD_ok hok _⟩]
theorem backU_length (hs : List HopL) (hok : ∀ h ∈ hs, h.ok) (k : Nat) : (backU hs hok k).length = k := by
  induction k with
  | zero => rfl
  | succ k ih => simp [backU, ih]
theorem backU_hops (hs : List HopL) (hok : ∀ h ∈ hs, h.ok) (k : Nat) (hk : k ≤ hs.length) : (backU hs hok k).map (fun x => x.1.2) = (hs.drop (hs.length - k)).reverse := by
  induction k with
  | zero => simp [backU]
  | succ k ih =>
    rw [backU, List.map_append, ih (by omega)]
    have h1 : hs.length - (k + 1) < hs.length := by omega
    have e : hs.length - (k + 1) + 1 = hs.length - k := by omega
    have e2 : hs.length - (k + 1) = hs.length - 1 - k := by omega
    rw [getD_drop h1, e, List.reverse_cons, e2]
    rfl
theorem backU_all (hs : List HopL) (hok : ∀ h ∈ hs, h.ok) : (backU hs hok hs.length).map (fun x => x.1.2) = hs.reverse := by
  rw [backU_hops hs hok _ (Nat.le_refl _), Nat.sub_self, List.drop_zero]

set_option maxHeartbeats 1000000 in
/-- slices.Backward: a box with the slice, and a function that looks at it. -/
theorem back_any (A : Option Addr) (n c : Nat) (w : World) :
    Calls Tryz.prog 17 #[.slice A n c] w fun e w' => e = .returned (.func (.func 42) #[] #[.pointer (some ⟨w.heap.size, 0, none⟩)]) ∧ w' = w.alloc (.cells #[.slice A n c] 22) := by
  go_enter Tryz.func17, Tryz.ntmps17
  go_wp2
  go_ret
  exact ⟨rfl, rfl⟩

theorem wplIn_held {n : Nat} {P : Program} {ops : Array Oper} {rest : List Oper} {op : Oper} {a : Act} {w : World} {Q : Exit → Act → World → Prop} (hg : op.guard = none) (v : Value) (hd : plainO op = true) (hv : (execOp a.eval op).run P w = .ok (.value v) w)
    (h : wpListIn Fence.wide n P ops Q rest (a.put op.dst v) w) : wpListIn Fence.wide n P ops Q (op :: rest) a w := by
  refine wpListIn_plain hg fun K hK => ⟨fun _ _ => trivial, ?_⟩
  rw [Oper.semAt_eq _ _ _ (plainO_ne hd), hv]
  exact hK _ _ h
/-- What a round of Build leaves as it lay: all but its packet, its slot, and what came behind the loop's beginning. -/
def KpB (Bs g8 g9 : Nat) (W W' : World) : Prop := Frm (fun k => k = g8 ∨ k = g9 ∨ Bs ≤ k) W W'
theorem KpB.trans {Bs g8 g9 : Nat} {A B C : World} (h : KpB Bs g8 g9 A B) (k : KpB Bs g8 g9 B C) : KpB Bs g8 g9 A C := Frm.trans h k (fun _ _ h => h)
theorem KpB.put {Bs g8 g9 : Nat} {w : World} (hw : Bs ≤ w.heap.size) (W : World) (l : Nat) (o o' : Obj) (hl : w.heap.size ≤ l) (h : W.heap[l]? = some o) (_ : o.isCells = false) (_ : o.isWalk = false) : KpB Bs g8 g9 W (W.putObj l o') :=
  (Frm.of_grown (grownBy_putObj' W l o')).mono (fun k _ hk => by injection hk with hk; subst hk; exact .inr (.inr (Nat.le_trans hw hl)))
/-- What the iterator looks at. -/
structure BackC (w0 : World) (Bn : Nat) (A : Option Addr) (m c : Nat) (W : World) : Prop where
  bel : Below w0.heap.size w0 W
  box : W.cell? ⟨Bn, 0, none⟩ = some (.slice A m c)
theorem BackC.keep {w0 : World} {Bn Bs g8 g9 : Nat} {A : Option Addr} {m c : Nat} {W W' : World} (h : BackC w0 Bn A m c W) (h8 : w0.heap.size ≤ g8) (h9 : w0.heap.size ≤ g9) (hs : w0.heap.size ≤ Bs) (n8 : Bn ≠ g8) (n9 : Bn ≠ g9) (hn : Bn < Bs) (k : KpB Bs g8 g9 W W') : BackC w0 Bn A m c W' :=
  ⟨below_frm h.bel k h.bel.size (fun i hi => by rcases hi with rfl | rfl | hi <;> omega), cell_frm k h.box (fun hi => by rcases hi with hi | hi | hi <;> first | exact n8 hi | exact n9 hi | (simp only at hi; omega))⟩

set_option maxHeartbeats 4000000 in
set_option maxRecDepth 100000 in
/-- The iterator's walk. -/
theorem back1_in (n : Nat) (hn : 1 ≤ n) (l Bn Bs g8 g9 : Nat) (w0 : World) (A : Option Addr) (m c : Nat) (hs : List HopL) (hR : HRow w0 A m hs) (hm : m ≤ 1000)
    (h8 : w0.heap.size ≤ g8) (h9 : w0.heap.size ≤ g9) (hBs : w0.heap.size ≤ Bs) (n8 : Bn ≠ g8) (n9 : Bn ≠ g9) (hnb : Bn < Bs) (J Jx : List Item → World → Prop)
    (hY : ∀ pre x W, J pre W → pre.length < m → YieldAt Fence.wide (n - 1) Tryz.prog l (itemV x) W fun e W' =>
      (e = .returned (.bool true) ∧ J (pre ++ [x]) W' ∧ KpB Bs g8 g9 W W') ∨ (e = .returned (.bool false) ∧ Jx (pre ++ [x]) W'))
    (W : World) (hC : BackC w0 Bn A m c W) (h0 : J [] W) :
    CallsIn Fence.wide n Tryz.prog 42 #[.func (.yield l) #[] #[], .pointer (some ⟨Bn, 0, none⟩)] W fun e W' => (∃ v, e = .returned v) ∧
      ((∃ ys, ys = backU hs hR.ok m ∧ J ys W') ∨ (∃ pre, True ∧ Jx pre W')) := by
  have hlen : ∀ k, (backU hs hR.ok k).length = k := backU_length hs hR.ok
  have hstep : ∀ k, k < m → ∃ x : Item, x.1.1 = m - 1 - k ∧ x.1.2 = hs.getD (m - 1 - k) hop0 ∧ backU hs hR.ok (k + 1) = backU hs hR.ok k ++ [x] := by
    intro k hk
    refine ⟨⟨(hs.length - 1 - k, hs.getD (hs.length - 1 - k) hop0), getD_ok hR.ok _⟩, ?_, ?_, rfl⟩
    · show hs.length - 1 - k = _; rw [hR.len]
    · show hs.getD (hs.length - 1 - k) hop0 = _; rw [hR.len]
  have hU0 : backU hs hR.ok 0 = [] := rfl
  have HR := hide hR
  obtain ⟨U, hU⟩ : ∃ U : Nat → List Item, U = backU hs hR.ok := ⟨_, rfl⟩
  rw [← hU] at hstep hlen hU0 ⊢
  clear hU hR
  have HC := hide hC
  have HY := hide hY
  have HST := hide hstep
  have HLN := hide hlen
  have HU0 := hide hU0
  have hbx := hC.box
  clear hC hY hstep hlen hU0
  refine callsIn_of_wp Tryz.func42 rfl trivial ?_ rfl
  simp only [Tryz.ntmps42, List.size_toArray, List.length_cons, List.length_nil, Nat.reduceAdd, Nat.reduceSub, Array.replicate_succ, Array.replicate_zero, List.push_toArray, List.append_toArray, List.nil_append, List.cons_append]
  gi_wp2
  clear hbx
  gi_loopw [3] (fun p wr => ∃ (k : Nat) (i : Int), k ≤ m ∧ i = (m : Int) - 1 - k ∧ p = .int .i64 i ∧ J (U k) wr ∧ BackC w0 Bn A m c wr) (fun p wr => (intOf p + 1).toNat)
  case atStart =>
    refine ⟨0, (m : Int) - 1, by omega, by omega, rfl, ?_, HC.out⟩
    rw [HU0.out]
    exact h0
  case round =>
    obtain ⟨k, i, hk, hi, rfl, hJs, hC⟩ := hrel
    have HC1 := hide hC
    have hbx := hC.box
    clear hC HC
    by_cases hlt : k < m
    · obtain ⟨j, hj⟩ : ∃ j : Nat, j = m - 1 - k := ⟨_, rfl⟩
      obtain rfl : i = (j : Int) := by omega
      have hjm : j < m := by omega
      obtain ⟨x, hx1, hx2, hx3⟩ := HST.out k hlt
      rw [← hj] at hx1 hx2
      obtain ⟨fn, tmps, assign, body, hy, hRd⟩ := HY.out (U k) x wr hJs (by rw [HLN.out]; exact hlt)
      have hv : itemV x = #[.int .i64 (j : Int), .agg (hopC (hs.getD j hop0)).toArray] := by
        unfold itemV
        rw [hx1, hx2]
      rw [hv] at hy
      rw [← hx3] at hRd
      obtain ⟨p, rfl, _⟩ := HR.out.at' (by omega)
      have HCL := hide ((HR.out.below HC1.out.bel).cell hjm)
      have HO := hide (HR.out.hop hjm)
      have HIJ := hide hi
      have HJ := hide hj
      clear hx1 hx2 hx3 hv hi hj hJs
      generalize hs.getD j hop0 = h at *
      gi_wp2_with (refine wplIn_held (op := ⟨some 16, _, _, _, _, _⟩) rfl (.agg (hopC h).toArray) rfl (held_loadH _ rfl (p.add (j * 54)) rfl _ HO.out HCL.out) ?_)
      refine hRd.mono ?_
      rintro e W3 (⟨rfl, hJ3, hk3⟩ | ⟨rfl, hJx3⟩)
      · have HC3 := hide (HC1.out.keep h8 h9 hBs n8 n9 hnb hk3)
        gi_wp2
        go_roundw
        case rel => exact ⟨k + 1, (j : Int) - 1, by omega, by have := HIJ.out; omega, by go_num, hJ3, HC3.out⟩
        case measure => (simp [intOf]) <;> omega
      · gi_wp2
        refine bodyPost_ret (results_none rfl _ _ _) rfl ?_
        exact ⟨⟨_, rfl⟩, .inr ⟨_, trivial, hJx3⟩⟩
    · obtain rfl : k = m := by omega
      obtain rfl : i = -1 := by omega
      have hJ16 : ∃ ys, ys = U k ∧ J ys wr := ⟨_, rfl, hJs⟩
      clear hi
      gi_wp2
      go_end0
      exact ⟨⟨_, rfl⟩, .inl hJ16⟩
end Go.Proofs.YtoiiiflnnhkjbaaGreatDoor
