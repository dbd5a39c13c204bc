/-
  The reader and the writer: numbers of two and four bytes, bytes, all of it.
-/
import Derived.Test.YtjicnfkodieaaaaDoorOct1
import Derived.Test.YtjicnfkodieaaaaDoorRun
import Derived.Test.YtjicnfkodieaaaaDoorNum
import Derived.Test.YtjicnfkodieaaaaDoorDSha11
import Derived.Deep.RegionLaw
import Derived.IntWalk
namespace Go.Proofs.YtjicnfkodieaaaaDoor
set_option linter.unusedVariables false
open Go.RowKit

/-- A reader at block g, whose bytes lie in block d, has l left. -/
def Rd (w : World) (g : Nat) (d : Option Nat) (l : List UInt8) : Prop := ∃ v, Blk w g 122 #[v] ∧ Seg w 5 v d (cellsB l)
theorem Rd.lt {w : World} {g : Nat} {d : Option Nat} {l : List UInt8} (h : Rd w g d l) : g < w.heap.size := by obtain ⟨_, h, _⟩ := h; exact h.lt
theorem Rd.frm {S : Nat → Prop} {w w' : World} {g : Nat} {d : Option Nat} {l : List UInt8} (h : Rd w g d l) (f : Frm S w w') (hg : ¬ S g) (hd : ∀ k, d = some k → ¬ S k) : Rd w' g d l := by
  obtain ⟨v, h1, h2⟩ := h
  exact ⟨v, h1.frm f hg, h2.frm f hd⟩
/-- What Read tells. -/
def ReadPost (l : List UInt8) (w : World) (e : Ending) (w' : World) : Prop :=
  ∃ g d, e = .returned (.pointer (some ⟨g, 0, none⟩)) ∧ Rd w' g d l ∧ Below w.heap.size w w' ∧ w.heap.size ≤ g ∧ ∀ k, d = some k → w.heap.size ≤ k
set_option maxHeartbeats 400000 in
theorem read_any (A : Option Addr) (n c : Nat) (l : List UInt8) (w : World) (hr : Rds w A n (cellsB l)) (hn : n ≤ 100000) :
    Calls Tryd.prog 53 #[.slice A n c] w (ReadPost l w) := by
  go_enter Tryd.func53, Tryd.ntmps53
  go_wp2_with (go_at_call 52; refine (clone_any A n c l w hr hn).mono ?_; rintro e w1 ⟨A1, c1, rfl, hown, hb⟩)
  go_ret
  exact ⟨w1.heap.size, _, rfl, ⟨_, Blk.new _ _ _, (Seg.of_own hown).frm (S := fun _ => False) (Frm.alloc _ _ _) (fun _ _ h => h)⟩, hb.alloc hb.size _, hb.size, fun k hk => (hown.lt k hk).1⟩
/-- What Bytes tells, where there are enough. -/
def BytesPost (g : Nat) (d : Option Nat) (l : List UInt8) (n : Nat) (w : World) (e : Ending) (w' : World) : Prop :=
  ∃ A c, e = .returned (.tuple #[.slice A n c, .int .i64 0]) ∧ w'.ownsRow w.heap.size 5 1 (.slice A n c) n (cellsB (l.take n)) ∧ Rd w' g d (l.drop n) ∧ Frm (fun k => k = g) w w'
set_option maxHeartbeats 400000 in
theorem bytes_ok (g : Nat) (d : Option Nat) (l : List UInt8) (n : Int) (w : World) (hr : Rd w g d l) (h0 : 0 ≤ n) (hn : n ≤ l.length) (hl : l.length ≤ 100000) :
    Calls Tryd.prog 97 #[.pointer (some ⟨g, 0, none⟩), .int .i64 n] w (BytesPost g d l n.toNat w) := by
  have hrc := hr
  obtain ⟨v, hb, hs⟩ := hr
  obtain ⟨A, c, rfl⟩ : ∃ A c, v = .slice A l.length c := by
    obtain ⟨A, c, hv, _⟩ := hs
    exact ⟨A, c, by rw [hv, cellsB_length]⟩
  have hc := hb.cell 0
  have hf := hb.frozen 0
  simp at hc
  have hcap : l.length ≤ c := by obtain ⟨A', c', hv, h1, _⟩ := hs; injection hv with _ _ h3; rw [cellsB_length] at h1; omega
  have hrd : Rds w A n.toNat (cellsB (l.take n.toNat)) := by rw [← cellsB_take]; exact (Seg.rds hs).take _ (by omega)
  have HC := hide (hs.cut n.toNat (by omega))
  have HN : Hid ((cellsB (l.take n.toNat)).length = n.toNat) := by rw [cellsB_length, List.length_take]; exact Nat.min_eq_left (by omega)
  have fin : ∀ (w1 : World) (u : Value), Below w.heap.size w w1 → Seg w 5 u d (cellsB (l.drop n.toNat)) → Rd (w1.setCell ⟨g, 0, none⟩ u) g d (l.drop n.toNat) ∧ Frm (fun k => k = g) w (w1.setCell ⟨g, 0, none⟩ u) := by
    intro w1 u h1 h2
    have hf1 : Frm (fun k => k = g) w w1 := Frm.of_below h1
    have hf2 : Frm (fun _ => False) w w1 := Frm.of_below h1
    have hb1 := hb.frm hf2 (fun h => h)
    exact ⟨⟨u, by simpa using hb1.set 0 u, (h2.frm hf2 (fun _ _ h => h)).set hb1 (by decide) 0 u⟩, hf1.trans (Frm.setCell _ _ _ (fun k => k = g) rfl) (fun _ _ h => h)⟩
  have FIN := hide fin
  clear fin
  go_enter Tryd.func97, Tryd.ntmps97
  go_wp2_with (go_at_call 52; refine (clone_any A n.toNat c (l.take n.toNat) w hrd (by omega)).mono ?_; rintro e w1 ⟨A1, c1, rfl, hown, hb1⟩; have hc1 := (hb1.cell hb.lt).trans hc; have hf1 := (hb1.frozen hb.lt).trans hf)
  all_goals
    go_ret2
    have h1 := HC.out
    rw [cellsB_drop] at h1
    simp only [h, if_true, if_false, Nat.sub_self] at h1
    obtain ⟨h2, h3⟩ := FIN.out w1 _ hb1 h1
    rw [HN.out] at hown ⊢
    exact ⟨A1, c1, rfl, own_set hown (hb.frm (S := fun _ => False) (Frm.of_below hb1) (fun h => h)) (by decide) 0 _, h2, h3⟩
set_option maxHeartbeats 400000 in
theorem left_any (g : Nat) (d : Option Nat) (l : List UInt8) (w : World) (hr : Rd w g d l) (hl : l.length ≤ 100000) :
    Calls Tryd.prog 54 #[.pointer (some ⟨g, 0, none⟩)] w fun e w' => e = .returned (.int .i64 l.length) ∧ w = w' := by
  obtain ⟨v, hb, hs⟩ := hr
  obtain ⟨A, c, rfl⟩ : ∃ A c, v = .slice A l.length c := by
    obtain ⟨A, c, hv, _⟩ := hs
    exact ⟨A, c, by rw [hv, cellsB_length]⟩
  have hc := hb.cell 0
  simp at hc
  go_enter Tryd.func54, Tryd.ntmps54
  go_wp2
  go_ret
  exact ⟨rfl, rfl⟩
theorem width16 (w : World) : Calls Tryd.prog 65 #[] w fun e w' => e = .returned (.int .i64 2) ∧ w = w' :=
  calls_of_fin (v := .int .i64 2) (w1 := w) 1000 (fun cs => by kernel_rfl) ⟨rfl, rfl⟩
theorem width32 (w : World) : Calls Tryd.prog 66 #[] w fun e w' => e = .returned (.int .i64 4) ∧ w = w' :=
  calls_of_fin (v := .int .i64 4) (w1 := w) 1000 (fun cs => by kernel_rfl) ⟨rfl, rfl⟩
def TakePost (k : IntKind) (g : Nat) (d : Option Nat) (l : List UInt8) (n : Nat) (w : World) (e : Ending) (w' : World) : Prop :=
  e = .returned (.tuple #[.int k (num (l.take n)), .int .i64 0]) ∧ Rd w' g d (l.drop n) ∧ Frm (fun k => k = g) w w'
set_option maxHeartbeats 1000000 in
theorem take16_ok (g : Nat) (d : Option Nat) (l : List UInt8) (w : World) (hr : Rd w g d l) (hn : 2 ≤ l.length) (hl : l.length ≤ 100000) :
    Calls Tryd.prog 87 #[.pointer (some ⟨g, 0, none⟩)] w (TakePost .u16 g d l 2 w) := by
  go_enter Tryd.func87, Tryd.ntmps87
  go_wp2_with (first | (go_at_call 65; refine (width16 _).mono ?_; rintro e w1 ⟨rfl, rfl⟩) | (go_at_call 97; refine (bytes_ok g d l 2 _ hr (by omega) (by omega) hl).mono ?_; rintro e w1 ⟨A1, c1, rfl, hown, hrd, hfr⟩))
  obtain ⟨gb, cb, hv, _, _⟩ := hown.form (by decide)
  injection hv with hA _ hc
  subst hA hc
  have hcells := hown.cells (g := gb) rfl
  have HC : Hid (∀ k, k < 2 → w1.cell? ⟨gb, k, none⟩ = some (.int .u8 ((l.getD k 0).toNat : Int))) := by
    intro k hk
    have h1 : (cellsB (List.take (Int.toNat 2) l))[k]? = some (.int .u8 ((l.getD k 0).toNat : Int)) := by
      have h2 : Int.toNat 2 = 2 := rfl
      rw [h2, cellsB_get, List.getElem?_take, if_pos hk, List.getElem?_eq_getElem (by omega)]
      simp [List.getD, List.getElem?_eq_getElem (show k < l.length by omega)]
    have h3 := hcells k _ h1
    have hadd : (⟨gb, 0, none⟩ : Addr).add k = ⟨gb, k, none⟩ := by unfold Addr.add; split <;> simp_all
    rwa [hadd] at h3
  clear hcells
  go_loop [6, 20] (fun n i => ∃ k : Nat, k ≤ 2 ∧ i = .int .i64 k ∧ n = .int .u64 (num (l.take k))) (fun _ i => 2 - (intOf i).toNat)
  case atStart => exact ⟨0, by omega, rfl, rfl⟩
  case round =>
    obtain ⟨k, hk, rfl, rfl⟩ := hrel
    by_cases hlt : k < 2
    · have hck := HC.out k hlt
      go_wp2
      go_round
      case rel =>
        refine ⟨k + 1, by omega, by go_num, ?_⟩
        have h8 := num_take_lt l k 7 (by omega)
        rw [or_step _ _ (UInt8.toNat_lt _) (Nat.lt_of_lt_of_le h8 (by decide)), num_take_succ l k (by omega)]
      case measure => simp [intOf]; omega
    · obtain rfl : k = 2 := by omega
      go_wp2
      go_ret2
      exact ⟨congrArg (fun z => Ending.returned (.tuple #[.int .u16 z, .int .i64 0])) (show IntKind.u16.wrap ((num (l.take 2) : Nat) : Int) = (num (l.take 2) : Nat) by rw [IntKind.wrap_u16]; exact Int.emod_eq_of_lt (by omega) (by have := num_take_lt l 2 2 (by omega); omega)), hrd, hfr⟩
set_option maxHeartbeats 1000000 in
theorem u16_ok (g : Nat) (d : Option Nat) (l : List UInt8) (w : World) (hr : Rd w g d l) (hn : 2 ≤ l.length) (hl : l.length ≤ 100000) :
    Calls Tryd.prog 71 #[.pointer (some ⟨g, 0, none⟩)] w (TakePost .u16 g d l 2 w) := by
  go_enter Tryd.func71, Tryd.ntmps71
  go_wp2_with (go_at_call 87; refine (take16_ok g d l _ hr hn hl).mono ?_; rintro e w1 ⟨rfl, hrd, hfr⟩)
  go_ret2
  exact ⟨rfl, hrd, hfr⟩
set_option maxHeartbeats 1000000 in
theorem take32_ok (g : Nat) (d : Option Nat) (l : List UInt8) (w : World) (hr : Rd w g d l) (hn : 4 ≤ l.length) (hl : l.length ≤ 100000) :
    Calls Tryd.prog 88 #[.pointer (some ⟨g, 0, none⟩)] w (TakePost .u32 g d l 4 w) := by
  go_enter Tryd.func88, Tryd.ntmps88
  go_wp2_with (first | (go_at_call 66; refine (width32 _).mono ?_; rintro e w1 ⟨rfl, rfl⟩) | (go_at_call 97; refine (bytes_ok g d l 4 _ hr (by omega) (by omega) hl).mono ?_; rintro e w1 ⟨A1, c1, rfl, hown, hrd, hfr⟩))
  obtain ⟨gb, cb, hv, _, _⟩ := hown.form (by decide)
  injection hv with hA _ hc
  subst hA hc
  have hcells := hown.cells (g := gb) rfl
  have HC : Hid (∀ k, k < 4 → w1.cell? ⟨gb, k, none⟩ = some (.int .u8 ((l.getD k 0).toNat : Int))) := by
    intro k hk
    have h1 : (cellsB (List.take (Int.toNat 4) l))[k]? = some (.int .u8 ((l.getD k 0).toNat : Int)) := by
      have h2 : Int.toNat 4 = 4 := rfl
      rw [h2, cellsB_get, List.getElem?_take, if_pos hk, List.getElem?_eq_getElem (by omega)]
      simp [List.getD, List.getElem?_eq_getElem (show k < l.length by omega)]
    have h3 := hcells k _ h1
    have hadd : (⟨gb, 0, none⟩ : Addr).add k = ⟨gb, k, none⟩ := by unfold Addr.add; split <;> simp_all
    rwa [hadd] at h3
  clear hcells
  go_loop [6, 20] (fun n i => ∃ k : Nat, k ≤ 4 ∧ i = .int .i64 k ∧ n = .int .u64 (num (l.take k))) (fun _ i => 4 - (intOf i).toNat)
  case atStart => exact ⟨0, by omega, rfl, rfl⟩
  case round =>
    obtain ⟨k, hk, rfl, rfl⟩ := hrel
    by_cases hlt : k < 4
    · have hck := HC.out k hlt
      go_wp2
      go_round
      case rel =>
        refine ⟨k + 1, by omega, by go_num, ?_⟩
        have h8 := num_take_lt l k 7 (by omega)
        rw [or_step _ _ (UInt8.toNat_lt _) (Nat.lt_of_lt_of_le h8 (by decide)), num_take_succ l k (by omega)]
      case measure => simp [intOf]; omega
    · obtain rfl : k = 4 := by omega
      go_wp2
      go_ret2
      exact ⟨congrArg (fun z => Ending.returned (.tuple #[.int .u32 z, .int .i64 0])) (show ((num (l.take 4) : Nat) : Int) % 4294967296 = (num (l.take 4) : Nat) by exact Int.emod_eq_of_lt (by omega) (by have := num_take_lt l 4 4 (by omega); omega)), hrd, hfr⟩
set_option maxHeartbeats 1000000 in
theorem u32_ok (g : Nat) (d : Option Nat) (l : List UInt8) (w : World) (hr : Rd w g d l) (hn : 4 ≤ l.length) (hl : l.length ≤ 100000) :
    Calls Tryd.prog 72 #[.pointer (some ⟨g, 0, none⟩)] w (TakePost .u32 g d l 4 w) := by
  go_enter Tryd.func72, Tryd.ntmps72
  go_wp2_with (go_at_call 88; refine (take32_ok g d l _ hr hn hl).mono ?_; rintro e w1 ⟨rfl, hrd, hfr⟩)
  go_ret2
  exact ⟨rfl, hrd, hfr⟩
/-- A writer at block g, whose bytes lie in block d, has l. -/
def Wr (w : World) (g : Nat) (d : Option Nat) (l : List UInt8) : Prop := ∃ v, Blk w g 80 #[v] ∧ w.ownsRow 0 5 1 v l.length (cellsB l) ∧ (v.ownBlock = none ∨ v.ownBlock = d)
theorem Wr.lt {w : World} {g : Nat} {d : Option Nat} {l : List UInt8} (h : Wr w g d l) : g < w.heap.size := by obtain ⟨_, h, _⟩ := h; exact h.lt
theorem Wr.frm {S : Nat → Prop} {w w' : World} {g : Nat} {d : Option Nat} {l : List UInt8} (h : Wr w g d l) (f : Frm S w w') (hg : ¬ S g) (hd : ∀ k, d = some k → ¬ S k) : Wr w' g d l := by
  obtain ⟨v, h1, h2, h3⟩ := h
  refine ⟨v, h1.frm f hg, own_frm h2 f (fun k hk => ?_), h3⟩
  rcases h3 with h3 | h3
  · rw [h3] at hk; cases hk
  · exact hd k (h3 ▸ hk)
/-- What a writer's call leaves: the writer has l now; only its own blocks turned. -/
def Put (g : Nat) (d : Option Nat) (l : List UInt8) (w w' : World) : Prop :=
  ∃ d', Wr w' g d' l ∧ (d' = d ∨ ∃ j, d' = some j ∧ w.heap.size ≤ j) ∧ Frm (fun k => k = g ∨ some k = d) w w'
theorem Put.refl {g : Nat} {d : Option Nat} {l : List UInt8} {w : World} (h : Wr w g d l) : Put g d l w w := ⟨d, h, .inl rfl, Frm.refl _ _⟩
/-- What was appended is stored. -/
theorem put_step {g : Nat} {d d' : Option Nat} {l l' : List UInt8} {w wr wr2 w1 : World} {v v1 : Value} {n : Nat}
    (hd : d' = d ∨ ∃ j, d' = some j ∧ w.heap.size ≤ j) (hf : Frm (fun k => k = g ∨ some k = d) w wr)
    (hb : Blk wr g 80 #[v]) (hown : wr.ownsRow 0 5 1 v l.length (cellsB l)) (hv : v.ownBlock = none ∨ v.ownBlock = d')
    (hf2 : Frm (fun _ => False) wr wr2) (hg : wr2.grownBy w1 v.ownBlock) (hown1 : w1.ownsRow 0 5 1 v1 n (cellsB l ++ cellsB l')) (hn : n = l.length + l'.length)
    (hat : v1.ownBlock = v.ownBlock ∨ v1.ownBlock = some wr2.heap.size) : Put g d (l ++ l') w (w1.setCell ⟨g, 0, none⟩ v1) := by
  subst hn
  have hb2 := hb.frm hf2 (fun h => h)
  have hown2 := own_frm hown hf2 (fun _ _ h => h)
  have hb1 := Blk.grown hb2 hown2 (by decide) hg
  have hs1 := hb1.set 0 v1
  have hwr : ∀ d'', (v1.ownBlock = none ∨ v1.ownBlock = d'') → Wr (w1.setCell ⟨g, 0, none⟩ v1) g d'' (l ++ l') := by
    intro d'' h
    refine ⟨v1, by simpa using hs1, ?_, h⟩
    have := own_set hown1 hb1 (by decide) 0 v1
    rwa [← cellsB_append, ← List.length_append] at this
  have hfr : Frm (fun k => k = g ∨ some k = d) w (w1.setCell ⟨g, 0, none⟩ v1) := by
    refine ((hf.trans hf2 (fun _ _ h => h.elim)).trans (Frm.of_grown hg) (fun i hi h => ?_)).trans (Frm.setCell _ _ _ (fun k => k = g) rfl) (fun _ _ h => .inl h)
    rcases hv with hv | hv
    · rw [hv] at h; cases h
    · rcases hd with rfl | ⟨j, rfl, hj⟩
      · exact .inr (hv ▸ h)
      · rw [hv] at h
        injection h with h
        omega
  have hsz : w.heap.size ≤ wr2.heap.size := Nat.le_trans hf.size hf2.size
  rcases hat with h | h
  · exact ⟨d', hwr d' (by rw [h]; exact hv), hd, hfr⟩
  · exact ⟨some wr2.heap.size, hwr _ (.inr h), .inr ⟨_, rfl, hsz⟩, hfr⟩
/-- What a writer's call tells: the writer. -/
def PutPost (g : Nat) (d : Option Nat) (l : List UInt8) (w : World) (e : Ending) (w' : World) : Prop := e = .returned (.pointer (some ⟨g, 0, none⟩)) ∧ Put g d l w w'
set_option maxHeartbeats 2000000 in
theorem put16_any (g : Nat) (d : Option Nat) (l : List UInt8) (n : Int) (w : World) (hr : Wr w g d l) (hl : l.length ≤ 100000) (h0 : 0 ≤ n) (hn : n < 65536) :
    Calls Tryd.prog 48 #[.pointer (some ⟨g, 0, none⟩), .int .u16 n] w (PutPost g d (l ++ be 2 n.toNat) w) := by
  go_enter Tryd.func48, Tryd.ntmps48
  go_wp2_with (go_at_call 65; refine (width16 _).mono ?_; rintro e w1 ⟨rfl, rfl⟩)
  go_loopw [5] (fun i wr => ∃ k : Nat, k ≤ 2 ∧ i = .int .i64 (1 - k) ∧ Put g d (l ++ (be 2 n.toNat).take k) w wr) (fun i _ => (intOf i + 1).toNat)
  case atStart => exact ⟨0, by omega, rfl, by rw [List.take_zero, List.append_nil]; exact Put.refl hr⟩
  case round =>
    obtain ⟨k, hk, rfl, d', ⟨v, hb, hown, hd⟩, hdd, hfr⟩ := hrel
    obtain ⟨A, c, rfl⟩ := own_form hown
    have hlen : (l ++ (be 2 n.toNat).take k).length ≤ 100010 := by rw [List.length_append, List.length_take, be_length]; omega
    by_cases hlt : k < 2
    · have HT := hide (be_take_succ 2 n.toNat k hlt)
      generalize (be 2 n.toNat).take k = t at *
      generalize hlt2 : l ++ t = lt at *
      have HLT := hide hlt2
      clear hlt2
      have hc := hb.cell 0
      have hf := hb.frozen 0
      simp at hc
      have hge : (0 : Int) ≤ 1 - k := by omega
      have hsh := fun w => shift_byte (P := Tryd.prog) n (8 * (1 - ↑k)) (1 - k) (by omega) (by omega) h0 w
      have hwn : IntKind.u64.wrap n = n := by rw [IntKind.wrap_u64]; exact Int.emod_eq_of_lt h0 (by omega)
      have HB := hide (be_byte n 2 k h0)
      generalize hx : n / 256 ^ (1 - k) = x at *
      have HX := hide hx
      clear hx
      have hb0 : Blk (wr.alloc (Obj.cells #[Value.int IntKind.u8 (IntKind.u8.wrap x)] 5)).drew g 80 #[.slice A lt.length c] := hb.frm (S := fun _ => False) (Frm.alloc wr _ _).drew (fun h => h)
      have hc0 : (wr.alloc (Obj.cells #[Value.int IntKind.u8 (IntKind.u8.wrap x)] 5)).cell? ⟨g, 0, none⟩ = some (.slice A lt.length c) := by have := hb0.cell 0; simpa using this
      have ho0 : (wr.alloc (Obj.cells #[Value.int IntKind.u8 (IntKind.u8.wrap x)] 5)).drew.ownsRow 0 5 1 (.slice A lt.length c) lt.length (cellsB lt) := hown.alloc _
      have hr0 : Rds (wr.alloc (Obj.cells #[Value.int IntKind.u8 (IntKind.u8.wrap x)] 5)).drew (some ⟨wr.heap.size, 0, none⟩) 1 [.int .u8 (IntKind.u8.wrap x)] := Rds.new1 wr _ _
      have hb1 : (lt.length + 1) * 1 ≤ 140737488355328 := by omega
      have hb2 : lt.length + 1 ≤ 140737488355328 := by omega
      go_wp2_with fail
      go_region_law (refine step_app one_u8 rfl (.tmp 16) (.tmp 23) rfl _ 0 (.slice A lt.length c) lt.length (cellsB lt) rfl ho0 (some ⟨wr.heap.size, 0, none⟩) 1 1 [.int .u8 (IntKind.u8.wrap x)] rfl hr0 (one1 _ _) hb1 hb2 (Nat.zero_le _) ?_; intro A1 c1 w1 hown1 hg1 hat1; have hb1 := Blk.grown hb0 ho0 (by decide) hg1; have hc1 := hb1.cell 0; have hf1 := hb1.frozen 0; simp at hc1)
      all_goals
        go_wp2
        go_roundw
        case rel =>
          refine ⟨k + 1, by omega, by go_num, ?_⟩
          rw [HT.out, ← List.append_assoc, HLT.out]
          refine put_step (v := .slice A lt.length c) hdd hfr hb hown hd ((Frm.alloc wr (.cells #[.int .u8 (IntKind.u8.wrap x)] 5) _).drew) hg1 ?_ rfl hat1
          have hbb := HB.out
          rw [hbb] at hown1
          exact hown1
        case measure => simp [intOf]; omega
    · obtain rfl : k = 2 := by omega
      go_wp2
      go_ret
      refine ⟨rfl, ?_⟩
      rw [List.take_of_length_le (by rw [be_length]; omega)] at hown
      exact ⟨d', ⟨_, hb, hown, hd⟩, hdd, hfr⟩
set_option maxHeartbeats 1000000 in
theorem wu16_any (g : Nat) (d : Option Nat) (l : List UInt8) (n : Int) (w : World) (hr : Wr w g d l) (hl : l.length ≤ 100000) (h0 : 0 ≤ n) (hn : n < 65536) :
    Calls Tryd.prog 35 #[.pointer (some ⟨g, 0, none⟩), .int .u16 n] w (PutPost g d (l ++ be 2 n.toNat) w) := by
  go_enter Tryd.func35, Tryd.ntmps35
  go_wp2_with (go_at_call 48; refine (put16_any g d l n _ hr hl h0 hn).mono ?_; rintro e w1 ⟨rfl, hp⟩)
  go_ret
  exact ⟨rfl, hp⟩
set_option maxHeartbeats 2000000 in
theorem put32_any (g : Nat) (d : Option Nat) (l : List UInt8) (n : Int) (w : World) (hr : Wr w g d l) (hl : l.length ≤ 100000) (h0 : 0 ≤ n) (hn : n < 4294967296) :
    Calls Tryd.prog 49 #[.pointer (some ⟨g, 0, none⟩), .int .u32 n] w (PutPost g d (l ++ be 4 n.toNat) w) := by
  go_enter Tryd.func49, Tryd.ntmps49
  go_wp2_with (go_at_call 66; refine (width32 _).mono ?_; rintro e w1 ⟨rfl, rfl⟩)
  go_loopw [5] (fun i wr => ∃ k : Nat, k ≤ 4 ∧ i = .int .i64 (3 - k) ∧ Put g d (l ++ (be 4 n.toNat).take k) w wr) (fun i _ => (intOf i + 1).toNat)
  case atStart => exact ⟨0, by omega, rfl, by rw [List.take_zero, List.append_nil]; exact Put.refl hr⟩
  case round =>
    obtain ⟨k, hk, rfl, d', ⟨v, hb, hown, hd⟩, hdd, hfr⟩ := hrel
    obtain ⟨A, c, rfl⟩ := own_form hown
    have hlen : (l ++ (be 4 n.toNat).take k).length ≤ 100010 := by rw [List.length_append, List.length_take, be_length]; omega
    by_cases hlt : k < 4
    · have HT := hide (be_take_succ 4 n.toNat k hlt)
      generalize (be 4 n.toNat).take k = t at *
      generalize hlt2 : l ++ t = lt at *
      have HLT := hide hlt2
      clear hlt2
      have hc := hb.cell 0
      have hf := hb.frozen 0
      simp at hc
      have hge : (0 : Int) ≤ 3 - k := by omega
      have hsh := fun w => shift_byte (P := Tryd.prog) n (8 * (3 - ↑k)) (3 - k) (by omega) (by omega) h0 w
      have hwn : IntKind.u64.wrap n = n := by rw [IntKind.wrap_u64]; exact Int.emod_eq_of_lt h0 (by omega)
      have HB := hide (be_byte n 4 k h0)
      generalize hx : n / 256 ^ (3 - k) = x at *
      have HX := hide hx
      clear hx
      have hb0 : Blk (wr.alloc (Obj.cells #[Value.int IntKind.u8 (IntKind.u8.wrap x)] 5)).drew g 80 #[.slice A lt.length c] := hb.frm (S := fun _ => False) (Frm.alloc wr _ _).drew (fun h => h)
      have hc0 : (wr.alloc (Obj.cells #[Value.int IntKind.u8 (IntKind.u8.wrap x)] 5)).cell? ⟨g, 0, none⟩ = some (.slice A lt.length c) := by have := hb0.cell 0; simpa using this
      have ho0 : (wr.alloc (Obj.cells #[Value.int IntKind.u8 (IntKind.u8.wrap x)] 5)).drew.ownsRow 0 5 1 (.slice A lt.length c) lt.length (cellsB lt) := hown.alloc _
      have hr0 : Rds (wr.alloc (Obj.cells #[Value.int IntKind.u8 (IntKind.u8.wrap x)] 5)).drew (some ⟨wr.heap.size, 0, none⟩) 1 [.int .u8 (IntKind.u8.wrap x)] := Rds.new1 wr _ _
      have hb1 : (lt.length + 1) * 1 ≤ 140737488355328 := by omega
      have hb2 : lt.length + 1 ≤ 140737488355328 := by omega
      go_wp2_with fail
      go_region_law (refine step_app one_u8 rfl (.tmp 16) (.tmp 23) rfl _ 0 (.slice A lt.length c) lt.length (cellsB lt) rfl ho0 (some ⟨wr.heap.size, 0, none⟩) 1 1 [.int .u8 (IntKind.u8.wrap x)] rfl hr0 (one1 _ _) hb1 hb2 (Nat.zero_le _) ?_; intro A1 c1 w1 hown1 hg1 hat1; have hb1 := Blk.grown hb0 ho0 (by decide) hg1; have hc1 := hb1.cell 0; have hf1 := hb1.frozen 0; simp at hc1)
      all_goals
        go_wp2
        go_roundw
        case rel =>
          refine ⟨k + 1, by omega, by go_num, ?_⟩
          rw [HT.out, ← List.append_assoc, HLT.out]
          refine put_step (v := .slice A lt.length c) hdd hfr hb hown hd ((Frm.alloc wr (.cells #[.int .u8 (IntKind.u8.wrap x)] 5) _).drew) hg1 ?_ rfl hat1
          have hbb := HB.out
          rw [hbb] at hown1
          exact hown1
        case measure => simp [intOf]; omega
    · obtain rfl : k = 4 := by omega
      go_wp2
      go_ret
      refine ⟨rfl, ?_⟩
      rw [List.take_of_length_le (by rw [be_length]; omega)] at hown
      exact ⟨d', ⟨_, hb, hown, hd⟩, hdd, hfr⟩
set_option maxHeartbeats 1000000 in
theorem wu32_any (g : Nat) (d : Option Nat) (l : List UInt8) (n : Int) (w : World) (hr : Wr w g d l) (hl : l.length ≤ 100000) (h0 : 0 ≤ n) (hn : n < 4294967296) :
    Calls Tryd.prog 36 #[.pointer (some ⟨g, 0, none⟩), .int .u32 n] w (PutPost g d (l ++ be 4 n.toNat) w) := by
  go_enter Tryd.func36, Tryd.ntmps36
  go_wp2_with (go_at_call 49; refine (put32_any g d l n _ hr hl h0 hn).mono ?_; rintro e w1 ⟨rfl, hp⟩)
  go_ret
  exact ⟨rfl, hp⟩
set_option maxHeartbeats 1000000 in
theorem wbytes_any (g : Nat) (d : Option Nat) (l l' : List UInt8) (A' : Option Addr) (n' c' : Nat) (w : World) (hr : Wr w g d l) (hl : l.length ≤ 100000) (hr' : Rds w A' n' (cellsB l')) (hl' : n' ≤ 100000) :
    Calls Tryd.prog 39 #[.pointer (some ⟨g, 0, none⟩), .slice A' n' c'] w (PutPost g d (l ++ l') w) := by
  obtain ⟨v, hb, hown, hd⟩ := hr
  obtain ⟨A, c, rfl⟩ := own_form hown
  have hc := hb.cell 0
  have hf := hb.frozen 0
  simp at hc
  have HL := hide hr'.1
  have hb1 : (l.length + n') * 1 ≤ 140737488355328 := by omega
  have hb2 : l.length + n' ≤ 140737488355328 := by omega
  go_enter Tryd.func39, Tryd.ntmps39
  go_wp2_with (at_builtin; refine wpl_app one_u8 rfl (.tmp 9) (.tmp 10) rfl _ 0 (.slice A l.length c) l.length (cellsB l) rfl hown A' n' c' (cellsB l') rfl hr' (cellsB_one l') hb1 hb2 (Nat.zero_le _) ?_; intro A1 c1 w1 hown1 hg1 hat1; have hb1 := Blk.grown hb hown (by decide) hg1; have hc1 := hb1.cell 0; have hf1 := hb1.frozen 0; simp at hc1)
  go_ret
  refine ⟨rfl, put_step (v := .slice A l.length c) (.inl rfl) (Frm.refl _ _) hb hown hd (Frm.refl _ _) hg1 hown1 ?_ hat1⟩
  have := HL.out
  rw [cellsB_length] at this
  omega
set_option maxHeartbeats 1000000 in
theorem wdone_any (g : Nat) (d : Option Nat) (l : List UInt8) (w : World) (hr : Wr w g d l) (hl : l.length ≤ 100000) :
    Calls Tryd.prog 38 #[.pointer (some ⟨g, 0, none⟩)] w (New w.heap.size 5 (cellsB l) w) := by
  obtain ⟨v, hb, hown, hd⟩ := hr
  obtain ⟨A, c, rfl⟩ := own_form hown
  have hc := hb.cell 0
  simp at hc
  have hrd : Rds w A l.length (cellsB l) := (Seg.of_own hown).rds
  go_enter Tryd.func38, Tryd.ntmps38
  go_wp2_with (go_at_call 52; refine (clone_any A l.length c l w hrd hl).mono ?_; rintro e w1 ⟨A1, c1, rfl, hown1, hb1⟩)
  go_ret
  exact ⟨A1, c1, rfl, hown1, hb1⟩
theorem num_be (w n : Nat) (h : n < 256 ^ w) : num (be w n) = n := by
  suffices hh : ∀ k, k ≤ w → num ((be w n).take k) = n / 256 ^ (w - k) by
    have := hh w (Nat.le_refl _)
    rw [List.take_of_length_le (by rw [be_length]; exact Nat.le_refl _), Nat.sub_self, Nat.pow_zero, Nat.div_one] at this
    exact this
  intro k
  induction k with
  | zero => intro _; rw [List.take_zero, Nat.sub_zero, Nat.div_eq_of_lt h]; rfl
  | succ k ih =>
    intro hk
    have h1 := ih (by omega)
    rw [be_take_succ w n k (by omega), num_snoc, h1, UInt8.toNat_ofNat']
    have e : w - k = (w - (k + 1)) + 1 := by omega
    have e2 : w - 1 - k = w - (k + 1) := by omega
    rw [e, e2, Nat.pow_succ, ← Nat.div_div_eq_div_mul]
    generalize n / 256 ^ (w - (k + 1)) = y
    omega
end Go.Proofs.YtjicnfkodieaaaaDoor
