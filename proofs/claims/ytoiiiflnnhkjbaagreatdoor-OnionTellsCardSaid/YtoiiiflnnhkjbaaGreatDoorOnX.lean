/-
  The document's hops: rows of them, made by append, and read.
-/
import Derived.Test.YtoiiiflnnhkjbaaGreatDoorOnG
import Derived.Test.YtoiiiflnnhkjbaaGreatDoorOnT
import Derived.Maps.AppendAt
import Derived.Test.YtoiiiflnnhkjbaaGreatDoorOm1
namespace Go.Proofs.YtoiiiflnnhkjbaaGreatDoor
set_option linter.unusedVariables false
set_option linter.unusedSimpArgs false
open Go.RowKit

/-- The document's hop. -/
def rhopC (h : HopL) : List Value := .int .u16 (h.addr : Int) :: .int .u16 (h.who : Int) :: strV h.key :: .int .u32 (h.epoch : Int) :: (cellsB h.nonce ++ [.int .u64 (h.lo : Int), .int .u64 (h.hi : Int), .int .u32 (h.delay : Int)])
theorem rhopC_length {h : HopL} (k : h.ok) : (rhopC h).length = 23 := by simp [rhopC, cellsB_length, k.nonce]
theorem rhopC_one (h : HopL) : ∀ v ∈ rhopC h, v.oneCell' = true := by
  intro v hv
  simp only [rhopC, List.mem_cons, List.mem_append, List.not_mem_nil, or_false] at hv
  rcases hv with rfl | rfl | rfl | rfl | hv | rfl | rfl | rfl
  all_goals first | rfl | exact cellsB_one _ v hv
theorem rhopC_nonce {h : HopL} (k : h.ok) : ((rhopC h).drop 4).take 16 = cellsB h.nonce := by
  have := cut_cells [.int .u16 (h.addr : Int), .int .u16 (h.who : Int), strV h.key, .int .u32 (h.epoch : Int)] (cellsB h.nonce) [.int .u64 (h.lo : Int), .int .u64 (h.hi : Int), .int .u32 (h.delay : Int)] 4 16 rfl (by rw [cellsB_length, k.nonce])
  simpa [rhopC, List.append_assoc] using this
theorem rhopC_tail {h : HopL} (k : h.ok) : (rhopC h).drop 20 = [.int .u64 (h.lo : Int), .int .u64 (h.hi : Int), .int .u32 (h.delay : Int)] := by
  have : rhopC h = ([.int .u16 (h.addr : Int), .int .u16 (h.who : Int), strV h.key, .int .u32 (h.epoch : Int)] ++ cellsB h.nonce) ++ [.int .u64 (h.lo : Int), .int .u64 (h.hi : Int), .int .u32 (h.delay : Int)] := by simp [rhopC]
  rw [this]
  exact List.drop_left' (by simp [cellsB_length, k.nonce])
theorem rhopC_lo {h : HopL} (k : h.ok) : (rhopC h)[20]? = some (.int .u64 (h.lo : Int)) := by have h := congrArg (fun l => l[0]?) (rhopC_tail k); simpa using h
theorem rhopC_hi {h : HopL} (k : h.ok) : (rhopC h)[21]? = some (.int .u64 (h.hi : Int)) := by have h := congrArg (fun l => l[1]?) (rhopC_tail k); simpa using h
theorem rhopC_delay {h : HopL} (k : h.ok) : (rhopC h)[22]? = some (.int .u32 (h.delay : Int)) := by have h := congrArg (fun l => l[2]?) (rhopC_tail k); simpa using h
theorem rhopC_addr (h : HopL) : (rhopC h)[0]? = some (.int .u16 (h.addr : Int)) := rfl
theorem rhopC_who (h : HopL) : (rhopC h)[1]? = some (.int .u16 (h.who : Int)) := rfl
theorem rhopC_key (h : HopL) : (rhopC h)[2]? = some (strV h.key) := rfl
theorem rhopC_epoch (h : HopL) : (rhopC h)[3]? = some (.int .u32 (h.epoch : Int)) := rfl
/-- A hop of nothing, as the document has it. -/
def rhop0 : List Value := [.int .u16 0, .int .u16 0, .string ⟨#[]⟩, .int .u32 0] ++ (cellsB Z16 ++ [.int .u64 0, .int .u64 0, .int .u32 0])
theorem aggRH : Agg Tryz.prog 71 23 := Agg.of (by kernel_rfl) (by kernel_rfl)
theorem zeroRH : (Tryz.prog.info? 71).map (fun i => i.zero) = some (some (.agg rhop0.toArray)) := by kernel_rfl
theorem infoRH : (Tryz.prog.info? 71).map (fun i => (i.zero, i.size, i.bytes)) = some (some (.agg rhop0.toArray), 23, 72) := by kernel_rfl
theorem underRHs : Tryz.prog.underlying 44 = some (.slice 71) := Tryz.underlying44

/-- The cells of hops. -/
def rhopsC : List HopL → List Value
  | [] => []
  | s :: l => rhopC s ++ rhopsC l
def OkH (l : List HopL) : Prop := ∀ s ∈ l, s.ok
theorem rhopsC_length : ∀ {l : List HopL}, OkH l → (rhopsC l).length = l.length * 23
  | [], _ => rfl
  | s :: l, h => by
    have h1 := rhopC_length (h s (by simp))
    have h2 := rhopsC_length (l := l) (fun x hx => h x (by simp [hx]))
    simp only [rhopsC, List.length_append, List.length_cons, h1, h2]
    omega
theorem rhopsC_append : ∀ l m, rhopsC (l ++ m) = rhopsC l ++ rhopsC m
  | [], m => rfl
  | s :: l, m => by simp [rhopsC, rhopsC_append l m]
theorem rhopsC_one : ∀ l, ∀ u ∈ rhopsC l, u.oneCell' = true
  | [], u, h => by cases h
  | s :: l, u, h => by
    rcases List.mem_append.1 h with h | h
    · exact rhopC_one s u h
    · exact rhopsC_one l u h
theorem rhopsC_at : ∀ (l : List HopL) (j q : Nat), OkH l → j < l.length → q < 23 → (rhopsC l)[j * 23 + q]? = (rhopC (l.getD j hop0))[q]?
  | [], j, q, _, h, _ => by simp at h
  | s :: l, 0, q, ho, h, hq => by
    rw [rhopsC, Nat.zero_mul, Nat.zero_add, List.getElem?_append_left (by rw [rhopC_length (ho s (by simp))]; exact hq)]
    rfl
  | s :: l, j + 1, q, ho, h, hq => by
    have := rhopsC_at l j q (fun x hx => ho x (by simp [hx])) (by simpa using h) hq
    have h1 := rhopC_length (ho s (by simp))
    rw [rhopsC, List.getElem?_append_right (by rw [h1]; omega), h1, show (j + 1) * 23 + q - 23 = j * 23 + q by omega, this]
    rfl

/-- A row of the document's hops of one's own, from block B on. -/
def XOwn (w : World) (B : Nat) (A : Option Addr) (n c : Nat) (l : List HopL) : Prop := OkH l ∧ w.ownsRow B 71 23 (.slice A n c) n (rhopsC l)
section
variable {w w' : World} {B n c : Nat} {A : Option Addr} {l : List HopL}
theorem XOwn.len (h : XOwn w B A n c l) : l.length = n := by have := h.2.1; rw [rhopsC_length h.1] at this; omega
theorem XOwn.block (h : XOwn w B A n c l) : (A = none ∧ n = 0 ∧ c = 0) ∨ ∃ g cur, A = some ⟨g, 0, none⟩ ∧ B ≤ g ∧ w.heap[g]? = some (.cells cur 71 (0, 0)) ∧ n ≤ c ∧ c ≤ maxLen ∧ cur.size = c * 23 ∧ cur.toList.take (n * 23) = rhopsC l := by
  rcases h.2.2 with ⟨hv, h0⟩ | ⟨g, cap, cur, hv, hb, hg, h1, h2, h3, h4⟩
  · injection hv with h1 h2 h3
    exact .inl ⟨h1, h0, h3⟩
  · injection hv with hA _ hc
    subst hA hc
    exact .inr ⟨g, cur, rfl, hb, hg, h1, h2, h3, h4⟩
theorem XOwn.frm {S : Nat → Prop} (h : XOwn w B A n c l) (f : Frm S w w') (hS : ∀ k, (Value.slice A n c).ownBlock = some k → ¬ S k) : XOwn w' B A n c l := by
  refine ⟨h.1, h.2.1, ?_⟩
  rcases h.2.2 with h0 | ⟨g', cap, cur, hv, hbs, hg, hr⟩
  · exact .inl h0
  · exact .inr ⟨g', cap, cur, hv, hbs, Blk.frm (t := 71) hg f (hS g' (by rw [hv]; rfl)), hr⟩
theorem XOwn.frm0 (h : XOwn w B A n c l) (f : Frm (fun _ => False) w w') : XOwn w' B A n c l := h.frm f (fun _ _ h => h)
theorem XOwn.ge (h : XOwn w B A n c l) : ∀ k, (Value.slice A n c).ownBlock = some k → B ≤ k ∧ k < w.heap.size := by
  intro k hk
  rcases h.block with ⟨rfl, _⟩ | ⟨g, cur, rfl, hb, hg, _⟩
  · cases hk
  · have : g = k := by simpa [Value.ownBlock] using hk
    subst this
    exact ⟨hb, (Array.getElem?_eq_some_iff.1 hg).1⟩
theorem XOwn.nil (w : World) (B : Nat) : XOwn w B none 0 0 [] := ⟨(fun _ h => by cases h), rfl, .inl ⟨rfl, rfl⟩⟩
/-- Its cells, one by one. -/
theorem XOwn.cells (h : XOwn w B A n c l) (hn : 0 < n) : ∃ g, A = some ⟨g, 0, none⟩ ∧ B ≤ g ∧ g < w.heap.size ∧ ∀ j q, j < n → q < 23 → w.cell? ⟨g, j * 23 + q, none⟩ = (rhopC (l.getD j hop0))[q]? := by
  have hl := h.len
  rcases h.block with ⟨rfl, h0, _⟩ | ⟨g, cur, rfl, hb, hg, h1, h2, h3, h4⟩
  · omega
  · have hB : Blk w g 71 cur := hg
    refine ⟨g, rfl, hb, hB.lt, fun j q hj hq => ?_⟩
    rw [hB.cell, ← rhopsC_at l j q h.1 (by omega) hq, ← h4, List.getElem?_take, if_pos (by omega)]
    simp
end
theorem info_splitX {P : Program} {e : TypeId} {z : Value} {s b : Nat} (hi : (P.info? e).map (fun i => (i.zero, i.size, i.bytes)) = some (some z, s, b)) : ∃ i, P.info? e = some i ∧ i.zero = some z ∧ i.size = s ∧ i.bytes = b := by
  cases hq : P.info? e with
  | none => simp [hq] at hi
  | some i => simp [hq] at hi; exact ⟨i, rfl, hi⟩
/-- append of one hop that was made just now. -/
theorem run_appX (ty : TypeId) (w : World) (base : Nat) (A : Option Addr) (n c : Nat) (l : List HopL) (hown : XOwn w base A n c l) (g : Nat) (r : HopL) (hr : r.ok) (hg : Blk w g 71 (rhopC r).toArray) (hsm : n ≤ 100000) (hb : base ≤ w.heap.size) :
    ∃ A' c' w', (Builtin.append_ #[44, 44] ty #[.slice A n c, .slice (some ⟨g, 0, none⟩) 1 1]).run Tryz.prog w = .ok (.slice A' (n + 1) c') w' ∧ XOwn w' base A' (n + 1) c' (l ++ [r]) ∧ Frm (fun k => some k = (Value.slice A n c).ownBlock) w w' ∧ ((Value.slice A' (n + 1) c').ownBlock = (Value.slice A n c).ownBlock ∨ (Value.slice A' (n + 1) c').ownBlock = some w.heap.size) := by
  obtain ⟨i, hi, hz, hs, hbb⟩ := info_splitX infoRH
  have hone : OkH [r] := fun x hx => by rw [List.mem_singleton.1 hx]; exact hr
  obtain ⟨v', w', h2, h3, h4, _, h5⟩ := run_append_own_at (P := Tryz.prog) w base 44 ty 71 i (.agg rhop0.toArray) 23 72 underRHs hi hz hs hbb rfl (by omega) (.slice A n c) n (rhopsC l) hown.2 ⟨g, 0, none⟩ 1 1 (rhopsC [r]) (by rw [rhopsC_length hone]; rfl) (fun j u hu => by
    rw [addr_add, hg.cell]
    simpa [rhopsC] using hu) (rhopsC_one _) (by simp only [maxLen]; omega) (by omega) hb
  have hf : ∃ A' c', v' = .slice A' (n + 1) c' := by
    rcases h3.2 with ⟨rfl, h0⟩ | ⟨g, cap, cur, rfl, _⟩
    · omega
    · exact ⟨_, _, rfl⟩
  obtain ⟨A', c', rfl⟩ := hf
  refine ⟨A', c', w', h2, ?_, Frm.of_grown h4, h5⟩
  rw [← rhopsC_append] at h3
  refine ⟨fun x hx => ?_, h3⟩
  rcases List.mem_append.1 hx with hx | hx
  · exact hown.1 x hx
  · exact hone x hx
/-- A row made of one hop. -/
theorem run_made1X (w : World) (cs : List Value) (hl : cs.length = 23) : (Instr.buildSlice 44 1 #[(0, .agg cs.toArray)]).run Tryz.prog w = .ok (.slice (some ⟨w.heap.size, 0, none⟩) 1 1) (w.alloc (.cells cs.toArray 71)) := by
  obtain ⟨i, hi, hz, hs, hbb⟩ := info_splitX infoRH
  have hf := Go.Great.fill_whole (s := 23) (by decide) [.agg cs.toArray] ((Array.range (1 * 23)).map ((Value.agg rhop0.toArray).cells[· % (Value.agg rhop0.toArray).cells.size]!)) (by simp [Value.cells, hl]) (by simp)
  refine run_buildSlice w _ _ 1 _ cs.toArray i _ underRHs hi hz (by rw [hs]; decide) (by rw [hs]; decide) ?_
  rw [hs]
  refine hf.trans ?_
  simp [Value.cells]

/-- A slice of the document's hops. -/
structure XRow (w : World) (A : Option Addr) (n : Nat) (hs : List HopL) : Prop where
  len : hs.length = n
  ok : ∀ h ∈ hs, h.ok
  at' : 0 < n → ∃ p, A = some p ∧ ∀ k, k < n → ∀ q v, (rhopC (hs.getD k hop0))[q]? = some v → w.cell? ((p.add (k * 23)).add q) = some v
theorem XRow.below {w w' : World} {A : Option Addr} {n : Nat} {hs : List HopL} (h : XRow w A n hs) (hb : Below w.heap.size w w') : XRow w' A n hs := by
  refine ⟨h.len, h.ok, fun hn => ?_⟩
  obtain ⟨p, rfl, hc⟩ := h.at' hn
  refine ⟨p, rfl, fun k hk q v hv => ?_⟩
  have h1 := hc k hk q v hv
  rw [hb.cell (World.block_lt_of_cell? w _ h1)]
  exact h1
theorem XRow.frm0 {w w' : World} {A : Option Addr} {n : Nat} {hs : List HopL} (h : XRow w A n hs) (f : Frm (fun _ => False) w w') : XRow w' A n hs := h.below (f.below (Nat.le_refl _) (fun _ h => h.elim))
theorem XRow.hop {w : World} {A : Option Addr} {n : Nat} {hs : List HopL} (h : XRow w A n hs) {k : Nat} (hk : k < n) : (hs.getD k hop0).ok := h.ok _ (hop_mem (by rw [h.len]; exact hk))
theorem XRow.cell {w : World} {n : Nat} {hs : List HopL} {p : Addr} (h : XRow w (some p) n hs) {k : Nat} (hk : k < n) : ∀ q u, (rhopC (hs.getD k hop0))[q]? = some u → w.cell? ((p.add (k * 23)).add q) = some u := by
  intro q u hu
  obtain ⟨p', hp, hc⟩ := h.at' (by omega)
  injection hp with hp
  subst hp
  exact hc k hk q u hu
theorem rhop_lt {h : HopL} (k : h.ok) {q : Nat} {u : Value} (hq : (rhopC h)[q]? = some u) : q < 23 := by
  have := (List.getElem?_eq_some_iff.1 hq).1
  rwa [rhopC_length k] at this
theorem XOwn.row {w : World} {B n c : Nat} {A : Option Addr} {l : List HopL} (h : XOwn w B A n c l) : XRow w A n l := by
  refine ⟨h.len, h.1, fun hn => ?_⟩
  obtain ⟨g, rfl, _, _, hc⟩ := h.cells hn
  refine ⟨_, rfl, fun k hk q v hv => ?_⟩
  have hq := rhop_lt (h.1 _ (hop_mem (by rw [h.len]; exact hk))) hv
  rw [addr_add, addr_add, Nat.zero_add, hc k q hk hq]
  exact hv
end Go.Proofs.YtoiiiflnnhkjbaaGreatDoor
