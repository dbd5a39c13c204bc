/-
  The writer: numbers of four bytes, bytes, all of it.
-/
import Derived.Test.YtbicjcpdcopbhaaDoorOct1
import Derived.Test.YtbicjcpdcopbhaaDoorRun
import Derived.Test.YtbicjcpdcopbhaaDoorNum
import Derived.Deep.RegionLaw
import Derived.IntWalk
namespace Go.Proofs.YtbicjcpdcopbhaaDoor
set_option linter.unusedVariables false
open Go.RowKit

theorem width32 (w : World) : Calls Tryd.prog 55 #[] w fun e w' => e = .returned (.int .i64 4) ∧ w = w' :=
  calls_of_fin (v := .int .i64 4) (w1 := w) 1000 (fun cs => by kernel_rfl) ⟨rfl, rfl⟩

/-- A writer at block g, whose bytes lie in block d, has l. -/
def Wr (w : World) (g : Nat) (d : Option Nat) (l : List UInt8) : Prop := ∃ v, Blk w g 61 #[v] ∧ w.ownsRow 0 5 1 v l.length (cellsB l) ∧ (v.ownBlock = none ∨ v.ownBlock = d)

theorem Wr.lt {w : World} {g : Nat} {d : Option Nat} {l : List UInt8} (h : Wr w g d l) : g < w.heap.size := by obtain ⟨_, h, _⟩ := h; exact h.lt

theorem Wr.frm {S : Nat → Prop} {w w' : World} {g : Nat} {d : Option Nat} {l : List UInt8} (h : Wr w g d l) (f : Frm S w w') (hg : ¬ S g) (hd : ∀ k, d = some k → ¬ S k) : Wr w' g d l := by
  obtain ⟨v, h1, h2, h3⟩ := h
  refine ⟨v, h1.frm f hg, own_frm h2 f (fun k hk => ?_), h3⟩
  rcases h3 with h3 | h3
  · rw [h3] at hk; cases hk
  · exact hd k (h3 ▸ hk)

/-- What a writer's call leaves: the writer has l now; only its own blocks turned. -/
def Put (g : Nat) (d : Option Nat) (l : List UInt8) (w w' : World) : Prop :=
  ∃ d', Wr w' g d' l ∧ (d' = d ∨ ∃ j, d' = some j ∧ w.heap.size ≤ j) ∧ Frm (fun k => k = g ∨ some k = d) w w'

theorem Put.refl {g : Nat} {d : Option Nat} {l : List UInt8} {w : World} (h : Wr w g d l) : Put g d l w w := ⟨d, h, .inl rfl, Frm.refl _ _⟩

/-- What was appended is stored. -/
theorem put_step {g : Nat} {d d' : Option Nat} {l l' : List UInt8} {w wr wr2 w1 : World} {v v1 : Value} {n : Nat}
    (hd : d' = d ∨ ∃ j, d' = some j ∧ w.heap.size ≤ j) (hf : Frm (fun k => k = g ∨ some k = d) w wr)
    (hb : Blk wr g 61 #[v]) (hown : wr.ownsRow 0 5 1 v l.length (cellsB l)) (hv : v.ownBlock = none ∨ v.ownBlock = d')
    (hf2 : Frm (fun _ => False) wr wr2) (hg : wr2.grownBy w1 v.ownBlock) (hown1 : w1.ownsRow 0 5 1 v1 n (cellsB l ++ cellsB l')) (hn : n = l.length + l'.length)
    (hat : v1.ownBlock = v.ownBlock ∨ v1.ownBlock = some wr2.heap.size) : Put g d (l ++ l') w (w1.setCell ⟨g, 0, none⟩ v1) := by
  subst hn
  have hb2 := hb.frm hf2 (fun h => h)
  have hown2 := own_frm hown hf2 (fun _ _ h => h)
  have hb1 := Blk.grown hb2 hown2 (by decide) hg
  have hs1 := hb1.set 0 v1
  have hwr : ∀ d'', (v1.ownBlock = none ∨ v1.ownBlock = d'') → Wr (w1.setCell ⟨g, 0, none⟩ v1) g d'' (l ++ l') := by
    intro d'' h
    refine ⟨v1, by simpa using hs1, ?_, h⟩
    have := own_set hown1 hb1 (by decide) 0 v1
    rwa [← cellsB_append, ← List.length_append] at this
  have hfr : Frm (fun k => k = g ∨ some k = d) w (w1.setCell ⟨g, 0, none⟩ v1) := by
    refine ((hf.trans hf2 (fun _ _ h => h.elim)).trans (Frm.of_grown hg) (fun i hi h => ?_)).trans (Frm.setCell _ _ _ (fun k => k = g) rfl) (fun _ _ h => .inl h)
    rcases hv with hv | hv
    · rw [hv] at h; cases h
    · rcases hd with rfl | ⟨j, rfl, hj⟩
      · exact .inr (hv ▸ h)
      · rw [hv] at h
        injection h with h
        omega
  have hsz : w.heap.size ≤ wr2.heap.size := Nat.le_trans hf.size hf2.size
  rcases hat with h | h
  · exact ⟨d', hwr d' (by rw [h]; exact hv), hd, hfr⟩
  · exact ⟨some wr2.heap.size, hwr _ (.inr h), .inr ⟨_, rfl, hsz⟩, hfr⟩

/-- What a writer's call tells: the writer. -/
def PutPost (g : Nat) (d : Option Nat) (l : List UInt8) (w : World) (e : Ending) (w' : World) : Prop := e = .returned (.pointer (some ⟨g, 0, none⟩)) ∧ Put g d l w w'

set_option maxHeartbeats 2000000 in
theorem put32_any (g : Nat) (d : Option Nat) (l : List UInt8) (n : Int) (w : World) (hr : Wr w g d l) (hl : l.length ≤ 100000) (h0 : 0 ≤ n) (hn : n < 4294967296) :
    Calls Tryd.prog 51 #[.pointer (some ⟨g, 0, none⟩), .int .u32 n] w (PutPost g d (l ++ be 4 n.toNat) w) := by
  go_enter Tryd.func51, Tryd.ntmps51
  go_wp2_with (go_at_call 55; refine (width32 _).mono ?_; rintro e w1 ⟨rfl, rfl⟩)
  go_loopw [5] (fun i wr => ∃ k : Nat, k ≤ 4 ∧ i = .int .i64 (3 - k) ∧ Put g d (l ++ (be 4 n.toNat).take k) w wr) (fun i _ => (intOf i + 1).toNat)
  case atStart => exact ⟨0, by omega, rfl, by rw [List.take_zero, List.append_nil]; exact Put.refl hr⟩
  case round =>
    obtain ⟨k, hk, rfl, d', ⟨v, hb, hown, hd⟩, hdd, hfr⟩ := hrel
    obtain ⟨A, c, rfl⟩ := own_form hown
    have hlen : (l ++ (be 4 n.toNat).take k).length ≤ 100010 := by rw [List.length_append, List.length_take, be_length]; omega
    by_cases hlt : k < 4
    · have HT := hide (be_take_succ 4 n.toNat k hlt)
      generalize (be 4 n.toNat).take k = t at *
      generalize hlt2 : l ++ t = lt at *
      have HLT := hide hlt2
      clear hlt2
      have hc := hb.cell 0
      have hf := hb.frozen 0
      simp at hc
      have hge : (0 : Int) ≤ 3 - k := by omega
      have hsh := fun w => shift_byte (P := Tryd.prog) n (8 * (3 - ↑k)) (3 - k) (by omega) (by omega) h0 w
      have hwn : IntKind.u64.wrap n = n := by rw [IntKind.wrap_u64]; exact Int.emod_eq_of_lt h0 (by omega)
      have HB := hide (be_byte n 4 k h0)
      generalize hx : n / 256 ^ (3 - k) = x at *
      have HX := hide hx
      clear hx
      have hb0 : Blk (wr.alloc (Obj.cells #[Value.int IntKind.u8 (IntKind.u8.wrap x)] 5)).drew g 61 #[.slice A lt.length c] := hb.frm (S := fun _ => False) (Frm.alloc wr _ _).drew (fun h => h)
      have hc0 : (wr.alloc (Obj.cells #[Value.int IntKind.u8 (IntKind.u8.wrap x)] 5)).cell? ⟨g, 0, none⟩ = some (.slice A lt.length c) := by have := hb0.cell 0; simpa using this
      have ho0 : (wr.alloc (Obj.cells #[Value.int IntKind.u8 (IntKind.u8.wrap x)] 5)).drew.ownsRow 0 5 1 (.slice A lt.length c) lt.length (cellsB lt) := hown.alloc _
      have hr0 : Rds (wr.alloc (Obj.cells #[Value.int IntKind.u8 (IntKind.u8.wrap x)] 5)).drew (some ⟨wr.heap.size, 0, none⟩) 1 [.int .u8 (IntKind.u8.wrap x)] := Rds.new1 wr _ _
      have hb1 : (lt.length + 1) * 1 ≤ 140737488355328 := by omega
      have hb2 : lt.length + 1 ≤ 140737488355328 := by omega
      go_wp2_with fail
      go_region_law (refine step_app one_u8 rfl (.tmp 16) (.tmp 23) rfl _ 0 (.slice A lt.length c) lt.length (cellsB lt) rfl ho0 (some ⟨wr.heap.size, 0, none⟩) 1 1 [.int .u8 (IntKind.u8.wrap x)] rfl hr0 (one1 _ _) hb1 hb2 (Nat.zero_le _) ?_; intro A1 c1 w1 hown1 hg1 hat1; have hb1 := Blk.grown hb0 ho0 (by decide) hg1; have hc1 := hb1.cell 0; have hf1 := hb1.frozen 0; simp at hc1)
      all_goals
        go_wp2
        go_roundw
        case rel =>
          refine ⟨k + 1, by omega, by go_num, ?_⟩
          rw [HT.out, ← List.append_assoc, HLT.out]
          refine put_step (v := .slice A lt.length c) hdd hfr hb hown hd ((Frm.alloc wr (.cells #[.int .u8 (IntKind.u8.wrap x)] 5) _).drew) hg1 ?_ rfl hat1
          have hbb := HB.out
          rw [hbb] at hown1
          exact hown1
        case measure => simp [intOf]; omega
    · obtain rfl : k = 4 := by omega
      go_wp2
      go_ret
      refine ⟨rfl, ?_⟩
      rw [List.take_of_length_le (by rw [be_length]; omega)] at hown
      exact ⟨d', ⟨_, hb, hown, hd⟩, hdd, hfr⟩

set_option maxHeartbeats 1000000 in
theorem wu32_any (g : Nat) (d : Option Nat) (l : List UInt8) (n : Int) (w : World) (hr : Wr w g d l) (hl : l.length ≤ 100000) (h0 : 0 ≤ n) (hn : n < 4294967296) :
    Calls Tryd.prog 34 #[.pointer (some ⟨g, 0, none⟩), .int .u32 n] w (PutPost g d (l ++ be 4 n.toNat) w) := by
  go_enter Tryd.func34, Tryd.ntmps34
  go_wp2_with (go_at_call 51; refine (put32_any g d l n _ hr hl h0 hn).mono ?_; rintro e w1 ⟨rfl, hp⟩)
  go_ret
  exact ⟨rfl, hp⟩

set_option maxHeartbeats 1000000 in
theorem wbytes_any (g : Nat) (d : Option Nat) (l l' : List UInt8) (A' : Option Addr) (n' c' : Nat) (w : World) (hr : Wr w g d l) (hl : l.length ≤ 100000) (hr' : Rds w A' n' (cellsB l')) (hl' : n' ≤ 100000) :
    Calls Tryd.prog 35 #[.pointer (some ⟨g, 0, none⟩), .slice A' n' c'] w (PutPost g d (l ++ l') w) := by
  obtain ⟨v, hb, hown, hd⟩ := hr
  obtain ⟨A, c, rfl⟩ := own_form hown
  have hc := hb.cell 0
  have hf := hb.frozen 0
  simp at hc
  have HL := hide hr'.1
  have hb1 : (l.length + n') * 1 ≤ 140737488355328 := by omega
  have hb2 : l.length + n' ≤ 140737488355328 := by omega
  go_enter Tryd.func35, Tryd.ntmps35
  go_wp2_with (at_builtin; refine wpl_app one_u8 rfl (.tmp 9) (.tmp 10) rfl _ 0 (.slice A l.length c) l.length (cellsB l) rfl hown A' n' c' (cellsB l') rfl hr' (cellsB_one l') hb1 hb2 (Nat.zero_le _) ?_; intro A1 c1 w1 hown1 hg1 hat1; have hb1 := Blk.grown hb hown (by decide) hg1; have hc1 := hb1.cell 0; have hf1 := hb1.frozen 0; simp at hc1)
  go_ret
  refine ⟨rfl, put_step (v := .slice A l.length c) (.inl rfl) (Frm.refl _ _) hb hown hd (Frm.refl _ _) hg1 hown1 ?_ hat1⟩
  have := HL.out
  rw [cellsB_length] at this
  omega

set_option maxHeartbeats 1000000 in
theorem wdone_any (g : Nat) (d : Option Nat) (l : List UInt8) (w : World) (hr : Wr w g d l) (hl : l.length ≤ 100000) :
    Calls Tryd.prog 36 #[.pointer (some ⟨g, 0, none⟩)] w (New w.heap.size 5 (cellsB l) w) := by
  obtain ⟨v, hb, hown, hd⟩ := hr
  obtain ⟨A, c, rfl⟩ := own_form hown
  have hc := hb.cell 0
  simp at hc
  have hrd : Rds w A l.length (cellsB l) := (Seg.of_own hown).rds
  go_enter Tryd.func36, Tryd.ntmps36
  go_wp2_with (go_at_call 52; refine (clone_any A l.length c l w hrd hl).mono ?_; rintro e w1 ⟨A1, c1, rfl, hown1, hb1⟩)
  go_ret
  exact ⟨A1, c1, rfl, hown1, hb1⟩

end Go.Proofs.YtbicjcpdcopbhaaDoor
