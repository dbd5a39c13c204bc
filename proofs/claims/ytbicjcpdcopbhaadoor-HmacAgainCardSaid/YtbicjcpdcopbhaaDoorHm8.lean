/-
  A part with its length; keys derived.
-/
import Derived.Test.YtbicjcpdcopbhaaDoorOwn
import Derived.Test.YtbicjcpdcopbhaaDoorHm7
import Derived.Lib.ConvBytes
namespace Go.Proofs.YtbicjcpdcopbhaaDoor
set_option linter.unusedVariables false
open Go.RowKit

def measured (ls : List (List UInt8)) : List (List UInt8) := ls.flatMap fun p => [be 4 p.length, p]
theorem measured_snoc (ls : List (List UInt8)) (p : List UInt8) : measured (ls ++ [p]) = measured ls ++ [be 4 p.length, p] := by simp [measured]
theorem measured_length (ls : List (List UInt8)) : (measured ls).length = 2 * ls.length := by
  induction ls with
  | nil => rfl
  | cons p l ih => rw [show measured (p :: l) = [be 4 p.length, p] ++ measured l from rfl, List.length_append, ih, List.length_cons]; simp; omega
theorem measured_flat (ls : List (List UInt8)) : (measured ls).flatten.length = 4 * ls.length + ls.flatten.length := by
  induction ls with
  | nil => rfl
  | cons p l ih => rw [show measured (p :: l) = [be 4 p.length, p] ++ measured l from rfl, List.flatten_append, List.length_append, ih]; simp [be_length]; omega
def deriveL (key lab : List UInt8) (ls : List (List UInt8)) : List UInt8 := macL key (measured (lab :: ls)).flatten
theorem deriveL_length (key lab : List UInt8) (ls : List (List UInt8)) : (deriveL key lab ls).length = 32 := macL_length _ _

/-- The bytes lie in a block of bytes. -/
def KindU (w : World) (v : Value) : Prop := ∀ A n c, v = .slice A n c → 0 < n → ∀ a, A = some a → ∃ cur fr, w.heap[a.block]? = some (.cells cur 5 fr)
/-- A part: one that was there, or one in a block of bytes. -/
def Pc (w0 w : World) (v : Value) (l : List UInt8) : Prop := Prt w0 v l ∨ (Prt w v l ∧ KindU w v)
theorem Prt.frmU {S : Nat → Prop} {w w' : World} {v : Value} {l : List UInt8} (h : Prt w v l) (k : KindU w v) (f : Frm S w w') (hS : ∀ g cur fr, w.heap[g]? = some (.cells cur 5 fr) → ¬ S g) : Prt w' v l ∧ KindU w' v := by
  obtain ⟨A, c, rfl, hc, hr⟩ := h
  have hb : 0 < l.length → ∀ a, A = some a → ¬ S a.block := fun hp a ha => by
    obtain ⟨cur, fr, hg⟩ := k A _ c rfl hp a ha
    exact hS _ _ _ hg
  refine ⟨⟨A, c, rfl, hc, hr.frm f hb⟩, fun A' n' c' hv hp a ha => ?_⟩
  injection hv with h1 h2 h3
  subst h1 h2 h3
  obtain ⟨cur, fr, hg⟩ := k A _ c rfl hp a ha
  exact ⟨cur, fr, (f.block _ (Array.getElem?_eq_some_iff.1 hg).1 (hS _ _ _ hg)).trans hg⟩
theorem Pc.frm {S : Nat → Prop} {w0 w w' : World} {v : Value} {l : List UInt8} (h : Pc w0 w v l) (f : Frm S w w') (hS : ∀ g cur fr, w.heap[g]? = some (.cells cur 5 fr) → ¬ S g) : Pc w0 w' v l :=
  h.imp id fun ⟨h1, h2⟩ => h1.frmU h2 f hS
theorem Pc.prt {w0 w : World} {v : Value} {l : List UInt8} (h : Pc w0 w v l) (hb : Below w0.heap.size w0 w) : Prt w v l := h.elim (fun h => h.below hb) (fun h => h.1)
inductive AllPc (w0 w : World) : List Value → List (List UInt8) → Prop
  | nil : AllPc w0 w [] []
  | cons {v : Value} {l : List UInt8} {vs : List Value} {ls : List (List UInt8)} : Pc w0 w v l → AllPc w0 w vs ls → AllPc w0 w (v :: vs) (l :: ls)
theorem AllPc.frm {S : Nat → Prop} {w0 w w' : World} {vs : List Value} {ls : List (List UInt8)} (h : AllPc w0 w vs ls) (f : Frm S w w') (hS : ∀ g cur fr, w.heap[g]? = some (.cells cur 5 fr) → ¬ S g) : AllPc w0 w' vs ls := by
  induction h with
  | nil => exact .nil
  | cons h _ ih => exact .cons (h.frm f hS) ih
theorem AllPc.all2 {w0 w : World} {vs : List Value} {ls : List (List UInt8)} (h : AllPc w0 w vs ls) (hb : Below w0.heap.size w0 w) : All2 w vs ls := by
  induction h with
  | nil => exact .nil
  | cons h _ ih => exact .cons (h.prt hb) ih
theorem AllPc.snoc2 {w0 w : World} {vs : List Value} {ls : List (List UInt8)} (h : AllPc w0 w vs ls) {v u : Value} {l m : List UInt8} (k : Pc w0 w v l) (k' : Pc w0 w u m) : AllPc w0 w (vs ++ [v, u]) (ls ++ [l, m]) := by
  induction h with
  | nil => exact .cons k (.cons k' .nil)
  | cons ho _ ih => exact .cons ho ih
theorem kind_own {w : World} {B n : Nat} {v : Value} {xs : List Value} (h : w.ownsRow B 5 1 v n xs) : KindU w v := by
  intro A m c hv hp a ha
  rcases h.2 with ⟨h1, _⟩ | ⟨g, cap, cur, h1, _, hg, _⟩
  · rw [hv] at h1; injection h1 with h1 h2 h3; rw [ha] at h1; cases h1
  · rw [hv] at h1
    injection h1 with h1 h2 h3
    rw [ha] at h1
    injection h1 with h1
    subst h1
    exact ⟨cur, (0, 0), hg⟩
/-- A row of slices lies in no block of bytes. -/
theorem own_kindU {w : World} {B n : Nat} {v : Value} {xs : List Value} (h : w.ownsRow B 24 1 v n xs) : ∀ g cur fr, w.heap[g]? = some (.cells cur 5 fr) → ¬ (some g = v.ownBlock) := by
  intro g cur fr hb he
  rcases h.2 with ⟨rfl, _⟩ | ⟨g', cap, cur', rfl, _, hg, _⟩
  · cases he
  · have : g = g' := by simpa [Value.ownBlock] using he
    subst this
    rw [hb] at hg
    injection hg with hg
    injection hg with _ h2
    exact absurd h2 (by decide)
theorem zeroW : (Tryd.prog.info? 61).map (fun i => i.zero) = some (some (.agg [Value.slice none 0 0].toArray)) := by kernel_rfl

theorem own_other {w : World} {B n g : Nat} {e t : TypeId} {v : Value} {xs : List Value} {cs : Array Value} (h : w.ownsRow B e 1 v n xs) (hb : Blk w g t cs) (hne : e ≠ t) : ¬ (some g = v.ownBlock) := by
  intro he
  rcases h.2 with ⟨rfl, _⟩ | ⟨g', cap, cur', rfl, _, hg, _⟩
  · cases he
  · have : g = g' := by simpa [Value.ownBlock] using he
    subst this
    exact Blk.ne (t := e) (show Blk w g e cur' from hg) hb hne rfl

def MeasPost (w0 w : World) (v : Value) (n : Nat) (vs : List Value) (ls : List (List UInt8)) (u : Value) (p : List UInt8) (e : Ending) (w' : World) : Prop :=
  ∃ A' c' L, e = .returned (.slice A' (n + 2) c') ∧ w'.ownsRow w0.heap.size 24 1 (.slice A' (n + 2) c') (n + 2) (vs ++ [L, u]) ∧ AllPc w0 w' (vs ++ [L, u]) (ls ++ [be 4 p.length, p]) ∧ Below w0.heap.size w0 w' ∧ Frm (fun k => some k = v.ownBlock) w w'

set_option maxHeartbeats 4000000 in
theorem withLength_any (w0 w : World) (v : Value) (n : Nat) (vs : List Value) (ls : List (List UInt8)) (A : Option Addr) (m c : Nat) (p : List UInt8) (hown : w.ownsRow w0.heap.size 24 1 v n vs) (hP : AllPc w0 w vs ls) (hp : Pc w0 w (.slice A m c) p) (hpl : p.length = m) (hm : m ≤ 100000) (hn : n ≤ 1000) (hb : Below w0.heap.size w0 w) :
    Calls Tryd.prog 50 #[v, .slice A m c] w (MeasPost w0 w v n vs ls (.slice A m c) p) := by
  have e1 : IntKind.u32.wrap (m : Int) = (m : Int) := by rw [IntKind.wrap_u32']; omega
  have e1' : (m : Int) % 4294967296 = (m : Int) := by omega
  have HO := hide hown
  have HP := hide hP
  have HPP := hide hp
  have HPL := hide hpl
  have HB := hide hb
  clear hown hP hp hpl hb
  go_enter Tryd.func50, Tryd.ntmps50
  go_wp2_with ((with_reducible refine wpl_alloca (op := ⟨some 6, _, _, _, _, _⟩) rfl _ rfl _ zeroW ?_); intro g w1 hB1 hs1 hF1)
  have hW1 : Wr w1 g none [] := ⟨.slice none 0 0, hB1, ⟨rfl, .inl ⟨rfl, rfl⟩⟩, .inl rfl⟩
  refine (wu32_any g none [] (m : Int) w1 hW1 (by simp) (by omega) (by omega)).mono ?_
  rintro e w2 ⟨rfl, d2, hW2, _, hF2⟩
  rw [List.nil_append, Int.toNat_natCast] at hW2
  go_wp2_with fail
  refine (wdone_any g d2 (be 4 m) w2 hW2 (by rw [be_length]; omega)).mono ?_
  rintro e w3 ⟨A3, c3, rfl, hown3, hb3⟩
  have hF3 : Frm (fun _ => False) w2 w3 := Frm.of_below hb3
  have F03 : Frm (fun k => w.heap.size ≤ k) w w3 := ((hF1.mono (T := fun k => w.heap.size ≤ k) (fun _ _ h => h.elim)).trans hF2 (fun k _ h => by rcases h with h | h; omega; cases h)).trans hF3 (fun _ _ h => h.elim)
  have hlen : (cellsB (be 4 m)).length = 4 := by rw [cellsB_length, be_length]
  rw [hlen] at hown3 ⊢
  have hsz := F03.size
  have hO3 := own_frm HO.out F03 (fun k hk => by have := (HO.out.lt k hk).2; omega)
  have hP3 := HP.out.frm F03 (fun g cur fr h => by have := (Array.getElem?_eq_some_iff.1 h).1; omega)
  have hp3 := HPP.out.frm F03 (fun g cur fr h => by have := (Array.getElem?_eq_some_iff.1 h).1; omega)
  have hB3 := below_frm HB.out F03 HB.out.size (fun k hk => by have := HB.out.size; omega)
  have hL3 : Pc w0 w3 (.slice A3 4 c3) (be 4 m) := .inr ⟨by
    have := prt_own (l := be 4 m) (v := .slice A3 4 c3) (by rw [be_length]; exact hown3)
    exact this, kind_own hown3⟩
  have hFb : Frm (fun _ => False) w3 (w3.alloc (.cells #[.slice A3 4 c3, .slice A m c] 24)) := Frm.alloc _ _ _
  have hO4 := own_frm hO3 hFb (fun _ _ h => h)
  have hA4 := (hP3.snoc2 hL3 hp3).frm hFb (fun _ _ _ _ h => h)
  have hB4 := below_frm hB3 hFb hB3.size (fun _ h => h.elim)
  have hr4 := alloc_rds w3 [.slice A3 4 c3, .slice A m c] 24 (0, 0)
  have hn1 : ∀ u ∈ [Value.slice A3 4 c3, .slice A m c], u.oneCell' = true := by intro u hu; simp at hu; rcases hu with rfl | rfl <;> rfl
  have hb1 : (n + 2) * 24 ≤ 140737488355328 := by omega
  have hb2 : n + 2 ≤ 140737488355328 := by omega
  have hb5 : w0.heap.size ≤ (w3.alloc (.cells #[.slice A3 4 c3, .slice A m c] 24)).heap.size := Nat.le_trans hB3.size hFb.size
  have HA4 := hide hA4
  have F04 : Frm (fun k => some k = v.ownBlock) w (w3.alloc (.cells #[.slice A3 4 c3, .slice A m c] 24)) := (F03.mono (T := fun k => some k = v.ownBlock) (fun i hi h => by omega)).trans hFb (fun _ _ h => h.elim)
  clear hB1 hF1 hF2 hF3 hb3 hW1 hW2 F03 hown3 hO3 hP3 hp3 hB3 hL3 hFb hA4 HP HPP HB HO
  go_wp2_with (at_builtin; refine wpl_app one_sl rfl (.tmp 12) (.tmp 15) rfl _ w0.heap.size v n _ rfl hO4 (some ⟨w3.heap.size, 0, none⟩) 2 2 [.slice A3 4 c3, .slice A m c] rfl hr4 hn1 hb1 hb2 hb5 ?_; intro A9 c9 w9 hown9 hg9 hat9)
  have hF9 := Frm.of_grown hg9
  go_ret
  refine ⟨A9, c9, .slice A3 4 c3, rfl, hown9, ?_, below_frm hB4 hF9 hB4.size (fun k hk => (hO4.lt k hk.symm).1), F04.trans hF9 (fun _ _ h => h)⟩
  rw [HPL.out]
  exact HA4.out.frm hF9 (own_kindU hO4)
end Go.Proofs.YtbicjcpdcopbhaaDoor
