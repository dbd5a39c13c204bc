/-
  Parts written over, each in a block of its own.
-/
import Derived.Test.YtbicjcpdcopbhaaDoorJoined2
namespace Go.Proofs.YtbicjcpdcopbhaaDoor
set_option linter.unusedVariables false
set_option linter.unusedSimpArgs false
open Go.RowKit

theorem own_setcell {w : World} {B b m cap n : Nat} {l : List UInt8} (h : w.ownsRow B 5 1 (.slice (some ⟨b, 0, none⟩) m cap) l.length (cellsB l)) (u : UInt8) (hn : n < l.length) :
    (w.setCell ⟨b, n, none⟩ (.int .u8 (u.toNat : Int))).ownsRow B 5 1 (.slice (some ⟨b, 0, none⟩) m cap) (l.set n u).length (cellsB (l.set n u)) := by
  refine ⟨by rw [cellsB_length, Nat.mul_one], ?_⟩
  rcases h.2 with ⟨h1, _⟩ | ⟨g, cap', cur, hv, hb, hg, hnc, hcm, hcs, ht⟩
  · cases h1
  · injection hv with h1 h2 h3
    injection h1 with h1
    injection h1 with h1
    subst h1 h3
    refine .inr ⟨b, cap, cur.setIfInBounds n (.int .u8 (u.toNat : Int)), by rw [h2, List.length_set], hb, Blk.set (t := 5) hg n _, by rw [List.length_set]; exact hnc, hcm, by simpa using hcs, ?_⟩
    rw [List.length_set, ← cellsB_set, ← ht]
    simp [List.take_set]
theorem OwnAll.frm3 {S : Nat → Prop} {w w' : World} {B : Nat} {vs : List Value} {ls : List (List UInt8)} (h : OwnAll w B vs ls) (f : Frm S w w') (hS : ∀ v ∈ vs, ∀ k, v.ownBlock = some k → ¬ S k) : OwnAll w' B vs ls := by
  induction h with
  | nil => exact .nil
  | cons ho _ ih => exact .cons (own_frm ho f (hS _ (List.mem_cons_self ..))) (ih fun v hv => hS v (List.mem_cons_of_mem _ hv))
theorem OwnAll.set {w : World} {B : Nat} {vs : List Value} {ls : List (List UInt8)} (h : OwnAll w B vs ls) : ∀ (hd : vs.Pairwise Dis) (i n b m cap : Nat) (u : UInt8), vs[i]? = some (.slice (some ⟨b, 0, none⟩) m cap) → n < (ls.getD i []).length →
    OwnAll (w.setCell ⟨b, n, none⟩ (.int .u8 (u.toNat : Int))) B vs (ls.set i ((ls.getD i []).set n u)) := by
  induction h with
  | nil => intro _ i n b m cap u hv; simp at hv
  | @cons v l vs ls ho hrest ih =>
    intro hd i n b m cap u hv hn
    have hf : Frm (fun k => k = b) w (w.setCell ⟨b, n, none⟩ (.int .u8 (u.toNat : Int))) := Frm.setCell _ _ _ (fun k => k = b) rfl
    obtain ⟨hd1, hd2⟩ := List.pairwise_cons.1 hd
    rcases i with _ | i
    · simp at hv
      subst hv
      refine .cons (own_setcell ho u (by simpa using hn)) (hrest.frm3 hf fun v hv k hk e => ?_)
      subst e
      exact hd1 v hv k (by simp [Value.ownBlock]) hk
    · have hv' : vs[i]? = some (.slice (some ⟨b, 0, none⟩) m cap) := by simpa using hv
      refine .cons (own_frm ho hf fun k hk e => ?_) (by simpa using ih hd2 i n b m cap u hv' (by simpa using hn))
      subst e
      exact hd1 _ (List.mem_of_getElem? hv') k hk (by simp [Value.ownBlock])

structure AInv (w w1 : World) (g11 g12 g13 : Nat) (key mc dk sc : List UInt8) (A : Option Addr) (c : Nat) (TA : Option Addr) (tc k : Nat) (vs : List Value) (ps qs : List (List UInt8)) (wr : World) : Prop where
  own : wr.ownsRow w1.heap.size 24 1 (.slice A k c) k vs
  texts : wr.ownsRow w1.heap.size 9 1 (.slice TA k tc) k (ps.map strV)
  parts : OwnAll wr w1.heap.size vs qs
  key : Blk wr w.heap.size 43 (cellsB key).toArray
  mac : Blk wr g11 25 (cellsB mc).toArray
  der : Blk wr g12 43 (cellsB dk).toArray
  sht : Blk wr g13 49 (cellsB sc).toArray
  run : Run w wr
section
variable {w w1 : World} {g11 g12 g13 : Nat} {key mc dk sc : List UInt8} {A : Option Addr} {c : Nat} {TA : Option Addr} {tc k : Nat} {vs : List Value} {ps qs : List (List UInt8)} {wr : World}
theorem AInv.frm0 {w2 : World} (h : AInv w w1 g11 g12 g13 key mc dk sc A c TA tc k vs ps qs wr) (f : Frm (fun _ => False) wr w2) : AInv w w1 g11 g12 g13 key mc dk sc A c TA tc k vs ps qs w2 :=
  ⟨own_frm h.own f (fun _ _ h => h), own_frm h.texts f (fun _ _ h => h), h.parts.frm2 f (fun _ _ h => h), h.key.frm f (fun h => h), h.mac.frm f (fun h => h), h.der.frm f (fun h => h), h.sht.frm f (fun h => h), h.run.frm f (fun _ h => h.elim)⟩
theorem AInv.set (h : AInv w w1 g11 g12 g13 key mc dk sc A c TA tc k vs ps qs wr) (hd : vs.Pairwise Dis) (hw1 : w.heap.size ≤ w1.heap.size) (i n b m cap : Nat) (u : UInt8) (hv : vs[i]? = some (.slice (some ⟨b, 0, none⟩) m cap)) (hi : i < qs.length) (hn : n < (qs.getD i []).length) :
    AInv w w1 g11 g12 g13 key mc dk sc A c TA tc k vs ps (qs.set i ((qs.getD i []).set n u)) (wr.setCell ⟨b, n, none⟩ (.int .u8 (u.toNat : Int))) := by
  have hf : Frm (fun j => j = b) wr (wr.setCell ⟨b, n, none⟩ (.int .u8 (u.toNat : Int))) := Frm.setCell _ _ _ (fun j => j = b) rfl
  obtain ⟨v, hv2, ho⟩ : ∃ v, vs[i]? = some v ∧ wr.ownsRow w1.heap.size 5 1 v (qs.getD i []).length (cellsB (qs.getD i [])) := by
    have := h.parts
    clear h hd hf hn hv
    induction this generalizing i with
    | nil => simp at hi
    | cons ho _ ih =>
      rcases i with _ | i
      · exact ⟨_, rfl, ho⟩
      · obtain ⟨v, h1, h2⟩ := ih i (by simpa using hi)
        exact ⟨v, by simpa using h1, by simpa using h2⟩
  rw [hv] at hv2
  injection hv2 with hv2
  subst hv2
  obtain ⟨cur, hb⟩ : ∃ cur, Blk wr b 5 cur := by
    rcases ho.2 with ⟨h1, _⟩ | ⟨g, cap', cur, h1, _, hg, _⟩
    · cases h1
    · injection h1 with h1
      injection h1 with h1
      injection h1 with h1
      subst h1
      exact ⟨cur, hg⟩
  have hbb : w1.heap.size ≤ b := (ho.lt b (by simp [Value.ownBlock])).1
  exact ⟨own_frm h.own hf (fun j hj e => by subst e; exact own_other h.own hb (by decide) hj.symm), own_frm h.texts hf (fun j hj e => by subst e; exact own_other h.texts hb (by decide) hj.symm), h.parts.set hd i n b m cap u hv hn, h.key.frm hf (fun e => Blk.ne hb (e ▸ h.key) (by decide) rfl), h.mac.frm hf (fun e => Blk.ne hb (e ▸ h.mac) (by decide) rfl), h.der.frm hf (fun e => Blk.ne hb (e ▸ h.der) (by decide) rfl), h.sht.frm hf (fun e => Blk.ne hb (e ▸ h.sht) (by decide) rfl), h.run.frm hf (fun j hj => by omega)⟩
end
end Go.Proofs.YtbicjcpdcopbhaaDoor
