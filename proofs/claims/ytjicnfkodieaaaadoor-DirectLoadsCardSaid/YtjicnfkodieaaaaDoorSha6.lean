/-
  A stream takes bytes.
-/
import Derived.Test.YtjicnfkodieaaaaDoorSha5
import Derived.Lib.SliceRun
namespace Go.Proofs.YtjicnfkodieaaaaDoor
set_option linter.unusedVariables false
open Go.RowKit

theorem size8 : (Tryd.prog.info? 5).map (·.size) = some 1 := by kernel_rfl

/-- Bytes of a slice that does not lie in block g. -/
def Src (w : World) (g : Nat) (A : Option Addr) (n : Nat) (l : List UInt8) : Prop := Rds w A n (cellsB l) ∧ (0 < n → ∀ a, A = some a → a.block ≠ g)

theorem cell_frm {S : Nat → Prop} {w w' : World} (f : Frm S w w') {a : Addr} {v : Value} (h : w.cell? a = some v) (hS : ¬ S a.block) : w'.cell? a = some v := by
  have := f.block a.block (World.block_lt_of_cell? w _ h) hS
  rw [← h]
  simp only [World.cell?, this]
theorem add_block (a : Addr) (j : Nat) : (a.add j).block = a.block := by unfold Addr.add; split <;> rfl
theorem Rds.frm {S : Nat → Prop} {w w' : World} {A : Option Addr} {n : Nat} {xs : List Value} (h : Rds w A n xs) (f : Frm S w w') (hS : 0 < n → ∀ a, A = some a → ¬ S a.block) : Rds w' A n xs := by
  refine ⟨h.1, fun hn => ?_⟩
  obtain ⟨a, rfl, hc⟩ := h.2 hn
  exact ⟨a, rfl, fun j u hu => cell_frm f (hc j u hu) (by rw [add_block]; exact hS hn a rfl)⟩
theorem Src.frm {w w' : World} {g : Nat} {A : Option Addr} {n : Nat} {l : List UInt8} (h : Src w g A n l) (f : Frm (fun k => k = g) w w') : Src w' g A n l :=
  ⟨h.1.frm f (fun hn a ha => h.2 hn a ha), h.2⟩
theorem add_add (a : Addr) (i j : Nat) : (a.add i).add j = a.add (i + j) := by
  unfold Addr.add
  by_cases hi : i = 0
  · subst hi; simp
  · by_cases hj : j = 0
    · subst hj; simp [hi]
    · simp [hi, hj]; omega
theorem Rds.cut {w : World} {A : Option Addr} {n : Nat} {xs : List Value} (h : Rds w A n xs) (c k : Nat) (hk : k ≤ n) (hc : n ≤ c) : Rds w (if c = k then A else A.map (·.add k)) (n - k) (xs.drop k) := by
  refine ⟨by rw [List.length_drop, h.1], fun hn => ?_⟩
  obtain ⟨a, rfl, hcell⟩ := h.2 (by omega)
  rw [if_neg (by omega)]
  refine ⟨_, rfl, fun j u hu => ?_⟩
  rw [add_add]
  exact hcell _ u (by rwa [List.getElem?_drop] at hu)
theorem Src.cut {w : World} {g : Nat} {A : Option Addr} {n : Nat} {l : List UInt8} (h : Src w g A n l) (c k : Nat) (hk : k ≤ n) (hc : n ≤ c) : Src w g (if c = k then A else A.map (·.add k)) (n - k) (l.drop k) := by
  refine ⟨?_, ?_⟩
  · have := h.1.cut c k hk hc
    rwa [show (cellsB l).drop k = cellsB (l.drop k) by simp [cellsB, List.map_drop]] at this
  · intro hn a ha
    split at ha
    · exact h.2 (by omega) a ha
    · rcases A with _ | b
      · cases ha
      · injection ha with ha
        rw [← ha, add_block]
        exact h.2 (by omega) b rfl
theorem cellsB_take (l : List UInt8) (n : Nat) : (cellsB l).take n = cellsB (l.take n) := by simp [cellsB, List.map_take]
theorem cellsB_drop (l : List UInt8) (n : Nat) : (cellsB l).drop n = cellsB (l.drop n) := by simp [cellsB, List.map_drop]

/-- copy into a block that is known whole. -/
theorem wpl_copy {ops : Array Oper} {rest : List Oper} {op : Oper} {a : Act} {w : World} {Q : Exit → Act → World → Prop} (hgd : op.guard = none) (d s : Operand)
    (ho : op.op = .call { callee := .builtin .copy, args := #[d, s], argTypes := #[50, 50] })
    (g off dLen dCap : Nat) (ad : Addr) (sLen sCap m : Nat) (hd : a.eval d = .slice (some ⟨g, off, none⟩) dLen dCap) (hs : a.eval s = .slice (some ad) sLen sCap)
    (cur : List Value) (t : TypeId) (hg : Blk w g t cur.toArray) (cs : List Value) (hm : cs.length = m) (hn : m = Nat.min sLen dLen)
    (hsrc : ∀ j v, cs[j]? = some v → w.cell? (ad.add j) = some v) (hfit : off + m ≤ cur.length) (h1 : ∀ v ∈ cs, v.oneCell' = true)
    (h : ∀ w', Blk w' g t (splice cur off cs).toArray → Frm (fun k => k = g) w w' → wpList Tryd.prog ops Q rest (a.put op.dst (.int .i64 (m : Int))) w') : wpList Tryd.prog ops Q (op :: rest) a w := by
  subst hm
  refine wpList_copy_own hgd d s _ _ ho 5 under24 size8 g off dLen dCap ad sLen sCap hd hs cur.toArray t hg cs hn hsrc (by simpa using hfit) h1 ?_
  exact h _ (by have := Blk.setRow hg (cur.take off ++ (cs ++ cur.drop (off + cs.length))).toArray; simpa [splice] using this) (Frm.setRow _ _ _)

/-- A cut of a slice. -/
theorem wpl_cut {ops : Array Oper} {rest : List Oper} {op : Oper} {a : Act} {w : World} {Q : Exit → Act → World → Prop} (hgd : op.guard = none) (x lo : Operand)
    (ho : op.op = .slice 50 x (some lo) none none) (A A' : Option Addr) (n c k : Nat) (ik : IntKind) (hx : a.eval x = .slice A n c) (hl : a.eval lo = .int ik (k : Int)) (hk : k ≤ n) (hc : n ≤ c)
    (hA : A' = if c = k then A else A.map (·.add k)) (h : wpList Tryd.prog ops Q rest (a.put op.dst (.slice A' (n - k) (c - k))) w) : wpList Tryd.prog ops Q (op :: rest) a w := by
  subst hA
  refine wpList_plain hgd fun K hK => ?_
  have hinfo := size8
  cases hq : Tryd.prog.info? 5 with
  | none => rw [hq] at hinfo; cases hinfo
  | some i =>
    rw [hq] at hinfo
    have hs : i.size = 1 := by simpa using hinfo
    have hr : (Instr.sliceAt 50 (.slice A n c) (some (.int ik (k : Int))) none none).run Tryd.prog w = .ok (.slice (if c = k then A else A.map (·.add k)) (n - k) (c - k)) w := by
      simp [Instr.sliceAt, Instr.slice, run_underlying under24, Instr.sliceBounds, Instr.sliceBound, asIntOf, sizeOf, typeInfo, hq, hs, hk]
    unfold Oper.wp execOp
    simp only [ho, Option.map_some, Option.map_none, hx, hl, hr, Sem.run_bind, Result.andThen_ok]
    exact hK _ _ h

/-- clear of a slice in a block that is known whole. -/
theorem wpl_clear {ops : Array Oper} {rest : List Oper} {op : Oper} {a : Act} {w : World} {Q : Exit → Act → World → Prop} (hgd : op.guard = none) (s : Operand)
    (ho : op.op = .call { callee := .builtin .clear, args := #[s], argTypes := #[50] })
    (g off n c : Nat) (hs : a.eval s = .slice (some ⟨g, off, none⟩) n c) (hn : 0 < n) (cur : List Value) (t : TypeId) (hg : Blk w g t cur.toArray) (hfit : off + n ≤ cur.length)
    (h : ∀ w', Blk w' g t (splice cur off (cellsB (List.replicate n 0))).toArray → Frm (fun k => k = g) w w' → wpList Tryd.prog ops Q rest (a.put op.dst (.tuple #[])) w') : wpList Tryd.prog ops Q (op :: rest) a w := by
  refine wpList_plain hgd fun K hK => ?_
  have hcell : (List.replicate n (Value.int .u8 0)) = cellsB (List.replicate n 0) := by simp [cellsB]
  have hz : ∀ w, (zeroValue 5).run Tryd.prog w = .ok (.int .u8 0) w := by
    intro w
    have hinfo := info8
    cases hq : Tryd.prog.info? 5 with
    | none => rw [hq] at hinfo; cases hinfo
    | some i => rw [hq] at hinfo; simp at hinfo; simp [zeroValue, typeInfo, hq, hinfo.1]
  have hzc : (Builtin.zeroCells (Value.int .u8 0).cells n).toList = cellsB (List.replicate n 0) := by
    rw [← hcell]
    simp [Builtin.zeroCells, Value.cells]
    apply List.ext_getElem
    · simp
    · intro i h1 h2
      simp [Nat.mod_one]
  have hst := run_storeCells_at Tryd.prog g off t (cellsB (List.replicate n 0)) 0 cur.toArray w hg (by rw [cellsB_length]; simpa using hfit) (cellsB_one _)
  obtain ⟨m, rfl⟩ : ∃ m, n = m + 1 := ⟨n - 1, by omega⟩
  have hr : ∀ ty, (Builtin.clear_ #[50] ty #[.slice (some ⟨g, off, none⟩) (m + 1) c]).run Tryd.prog w = .ok (.tuple #[]) (w.setRow g (splice cur off (cellsB (List.replicate (m + 1) 0))).toArray) := by
    intro ty
    simp only [Nat.add_zero] at hst
    simp [Builtin.clear_, run_underlying under24, hz, hzc, hst, splice]
  unfold Oper.wp execOp
  simp [ho, resolve, invoke, builtin, hs, hr, Result.andThen]
  exact hK _ _ (h _ (Blk.setRow hg _) (Frm.setRow _ _ _))

theorem leftL_eq (l : List UInt8) : leftL l = l.drop (64 * (l.length / 64)) ++ List.replicate (64 - l.length % 64) 0 := rfl
theorem tail_length (l : List UInt8) : (l.drop (64 * (l.length / 64))).length = l.length % 64 := by rw [List.length_drop]; omega
theorem left_splice (l c : List UInt8) (h : l.length % 64 + c.length ≤ 64) : splice (leftL l) (l.length % 64) c = (l ++ c).drop (64 * (l.length / 64)) ++ List.replicate (64 - l.length % 64 - c.length) 0 := by
  have h1 : List.replicate (64 - l.length % 64) (0 : UInt8) = List.replicate c.length 0 ++ List.replicate (64 - l.length % 64 - c.length) 0 := by
    rw [List.replicate_append_replicate]
    congr 1
    omega
  rw [leftL_eq, h1, splice_mid _ _ _ _ _ (tail_length l) (by simp), List.drop_append_of_le_length (by omega), List.append_assoc]
theorem left_step (l c : List UInt8) (h : l.length % 64 + c.length < 64) : splice (leftL l) (l.length % 64) c = leftL (l ++ c) := by
  have h1 : (l.length + c.length) / 64 = l.length / 64 := by omega
  have h2 : (l.length + c.length) % 64 = l.length % 64 + c.length := by omega
  rw [left_splice l c (by omega), leftL_eq, List.length_append, h1, h2]
  congr 2
  omega
theorem left_full (l c : List UInt8) (h : l.length % 64 + c.length = 64) : splice (leftL l) (l.length % 64) c = ((l ++ c).drop (64 * (l.length / 64))).take 64 := by
  rw [left_splice l c (by omega), show 64 - l.length % 64 - c.length = 0 by omega, List.replicate_zero, List.append_nil, List.take_of_length_le (by rw [List.length_drop, List.length_append]; omega)]
theorem added_step (l c : List UInt8) (h : l.length % 64 + c.length < 64) : addedN (l ++ c) ((l ++ c).length / 64) = addedN l (l.length / 64) := by
  rw [List.length_append, show (l.length + c.length) / 64 = l.length / 64 by omega, addedN_append _ _ _ (by omega)]
theorem added_full (l c : List UInt8) (h : l.length % 64 + c.length = 64) : addedN (l ++ c) ((l ++ c).length / 64) = addB (addedN l (l.length / 64)) (((l ++ c).drop (64 * (l.length / 64))).take 64) := by
  rw [List.length_append, show (l.length + c.length) / 64 = l.length / 64 + 1 by omega, addedN, addedN_append _ _ _ (by omega)]
theorem left_done (l c : List UInt8) (h : l.length % 64 + c.length = 64) : leftL (l ++ c) = List.replicate 64 0 := by
  rw [leftL_eq, List.length_append, show (l.length + c.length) % 64 = 0 by omega, List.drop_eq_nil_of_le (by rw [List.length_append]; omega)]
  rfl
theorem cellsS_splice (a : List Nat) (b c : List UInt8) (n r : Nat) (ha : a.length = 8) (h : r + c.length ≤ b.length) : splice (cellsS a b n) (8 + r) (cellsB c) = cellsS a (splice b r c) n := by
  have hb : b = b.take r ++ ((b.drop r).take c.length ++ b.drop (r + c.length)) := by
    rw [← List.drop_drop, List.take_append_drop, List.take_append_drop]
  have e1 : cellsS a b n = (cellsW a ++ cellsB (b.take r)) ++ (cellsB ((b.drop r).take c.length) ++ (cellsB (b.drop (r + c.length)) ++ [.int .u64 (n : Int)])) := by
    conv => lhs; rw [hb]
    simp only [cellsS, cellsB_append, List.append_assoc]
  rw [e1, splice_mid _ _ _ _ _ (by rw [List.length_append, cellsW_length, cellsB_length, List.length_take]; omega) (by rw [cellsB_length, cellsB_length, List.length_take, List.length_drop]; omega)]
  simp only [cellsS, splice, cellsB_append, List.append_assoc]
theorem cellsS_taken (a : List Nat) (b : List UInt8) (n n' : Nat) (ha : a.length = 8) (hb : b.length = 64) : (cellsS a b n).set 72 (.int .u64 (n' : Int)) = cellsS a b n' := by
  rw [cellsS, cellsS, List.set_append_right _ _ (by rw [cellsW_length]; omega), cellsW_length, ha, List.set_append_right _ _ (by rw [cellsB_length]; omega), cellsB_length, hb]
  rfl
theorem cellsS_last (a : List Nat) (b : List UInt8) (n : Nat) (ha : a.length = 8) (hb : b.length = 64) : (cellsS a b n)[72]? = some (.int .u64 (n : Int)) := by
  rw [cellsS, List.getElem?_append_right (by rw [cellsW_length]; omega), cellsW_length, ha, List.getElem?_append_right (by rw [cellsB_length]; omega), cellsB_length, hb]
  rfl
theorem splice_all {α : Type} (b c : List α) (h : b.length = c.length) : splice b 0 c = c := by
  rw [splice, Nat.zero_add, ← h, List.drop_length, List.take_zero, List.append_nil, List.nil_append]

def slen : Value → Nat
  | .slice _ n _ => n
  | _ => 0

structure WriteInv (w : World) (g : Nat) (l : List UInt8) (rest : List UInt8) (A : Option Addr) (c : Nat) (wr : World) : Prop where
  st : St wr g l
  gl : Gl wr
  src : Src wr g A rest.length rest
  cap : rest.length ≤ c
  frm : Frm (fun k => k = g) w wr

set_option maxHeartbeats 4000000 in
set_option maxRecDepth 100000 in
theorem write_any (g : Nat) (l b : List UInt8) (A : Option Addr) (c : Nat) (w : World) (hG : Gl w) (hS : St w g l) (hA : Src w g A b.length b) (hc : b.length ≤ c) (hg2 : 2 ≤ g) (hl : l.length + b.length ≤ 1000000000000) :
    Calls Tryd.prog 50 #[.pointer (some ⟨g, 0, none⟩), .slice A b.length c] w fun e w' => e = .returned (.tuple #[]) ∧ St w' g (l ++ b) ∧ Frm (fun k => k = g) w w' := by
  have hlt := hS.lt
  have hst : WriteInv w g l b A c w := ⟨hS, hG, hA, hc, Frm.refl _ _⟩
  clear hS hG hA hc
  go_enter Tryd.func50, Tryd.ntmps50
  go_wp2_with fail
  go_loopw [1] (fun v wr => ∃ (pre rest : List UInt8) (A : Option Addr) (c : Nat), b = pre ++ rest ∧ v = .slice A rest.length c ∧ WriteInv w g (l ++ pre) rest A c wr) (fun v _ => slen v)
  case atStart => exact ⟨[], b, A, c, rfl, rfl, by rw [List.append_nil]; exact hst⟩
  case round =>
    clear hst
    obtain ⟨pre, rest, A, c, hpr, rfl, hi⟩ := hrel
    have hbl : pre.length + rest.length = b.length := by rw [hpr, List.length_append]
    have HPR := hide hpr
    clear hpr
    obtain ⟨cur, hcur⟩ : ∃ cur, cur = l ++ pre := ⟨_, rfl⟩
    rw [← hcur] at hi
    have hN : cur.length + rest.length ≤ 1000000000000 := by rw [hcur, List.length_append]; omega
    have HC := hide hcur
    clear hcur hbl
    by_cases hpos : 0 < rest.length
    · obtain ⟨m, hm⟩ : ∃ m, m = Nat.min rest.length (64 - cur.length % 64) := ⟨_, rfl⟩
      obtain ⟨N, hNn⟩ : ∃ N, N = cur.length := ⟨_, rfl⟩
      obtain ⟨r, hr⟩ : ∃ r, r = N % 64 := ⟨_, rfl⟩
      have hr64 : r < 64 := by omega
      rw [← hNn, ← hr] at hm
      have hm1 : m ≤ rest.length := by rw [hm]; exact Nat.min_le_left _ _
      have hm2 : r + m ≤ 64 := by have h : Nat.min rest.length (64 - r) ≤ 64 - r := Nat.min_le_right _ _; rw [← hm] at h; omega
      have hm0 : 0 < m := by rw [hm]; exact Nat.lt_min.2 ⟨hpos, by omega⟩
      obtain ⟨ad, rfl, hcell⟩ := hi.src.1.2 hpos
      obtain ⟨a, ha⟩ : ∃ a, a = addedN cur (cur.length / 64) := ⟨_, rfl⟩
      obtain ⟨lf, hlf⟩ : ∃ lf, lf = leftL cur := ⟨_, rfl⟩
      have hal : a.length = 8 := by rw [ha]; exact addedN_length _ _
      have hll : lf.length = 64 := by rw [hlf]; exact leftL_length _
      have hblk : Blk wr g 101 (cellsS a lf N).toArray := by rw [ha, hlf, hNn]; exact hi.st
      have hc72 : wr.cell? ⟨g, 72, none⟩ = some (.int .u64 (N : Int)) := by rw [hblk.cell, List.getElem?_toArray]; exact cellsS_last _ _ _ hal hll
      have hsl : ∀ w, Sem.run Tryd.prog (Instr.sliceAt 99 (.pointer (some ⟨g, 8, none⟩)) (some (.int .u64 (r : Int))) none none) w = .ok (.slice (some ⟨g, 8 + r, none⟩) (64 - r) (64 - r)) w := fun w => 
        run_slice_arr (P := Tryd.prog) (t := 99) (e := 5) (N := 64) (by kernel_rfl) (by kernel_rfl) g 8 .u64 r hr64 w
      have e1 : (N : Int) % 64 = (r : Int) := by omega
      have e1' : Int.tmod (N : Int) 64 = (r : Int) := by rw [Int.tmod_eq_emod_of_nonneg (by omega)]; exact e1
      have hch : (rest.take m).length = m := by rw [List.length_take]; omega
      have hsrc : ∀ j v, (cellsB (rest.take m))[j]? = some v → wr.cell? (ad.add j) = some v := by
        intro j v hv
        rw [← cellsB_take, List.getElem?_take] at hv
        split at hv
        · exact hcell j v hv
        · cases hv
      have HCUT : Hid (Src wr g (if c = m then some ad else (some ad).map (·.add m)) (rest.length - m) (rest.drop m)) := hi.src.cut c m hm1 hi.cap
      obtain ⟨A2, hA2⟩ : ∃ A2, A2 = if c = m then some ad else (some ad).map (·.add m) := ⟨_, rfl⟩
      rw [← hA2] at HCUT
      have HA2 := hide hA2
      have hcap := hi.cap
      have HF := hide hi.frm
      have HG := hide hi.gl
      have HSRC : Hid (∀ j v, (cellsB (rest.take m))[j]? = some v → wr.drew.cell? (ad.add j) = some v) := hsrc
      have HCH : Hid ((cellsB (rest.take m)).length = m) := by show _ = _; rw [cellsB_length, hch]
      have HM := hide hm
      have HFIT : Hid (8 + r + m ≤ (cellsS a lf N).length) := by show _ ≤ _; rw [cellsS_length, hal, hll]; omega
      have HSP : Hid (splice (cellsS a lf N) (8 + r) (cellsB (rest.take m)) = cellsS a (splice lf r (rest.take m)) N) := cellsS_splice a lf (rest.take m) N r hal (by rw [hch, hll]; omega)
      have hsll : (splice lf r (rest.take m)).length = 64 := by rw [length_splice _ _ _ (by rw [hch, hll]; omega), hll]
      have HB : Hid (Blk wr.drew g 101 (cellsS a lf N).toArray) := hblk
      have HNn := hide hNn
      have Hrr := hide hr
      have Ha := hide ha
      have Hlf := hide hlf
      have Hal := hide hal
      have Hsll := hide hsll
      have Hch := hide hch
      obtain ⟨rest2, hrest2⟩ : ∃ rest2, rest2 = rest.drop m := ⟨_, rfl⟩
      have HR2 : Hid (rest2.length = rest.length - m) := by show _ = _; rw [hrest2, List.length_drop]
      rw [← hrest2] at HCUT
      have HR := hide hrest2
      obtain ⟨nr, hnr⟩ : ∃ nr, nr = rest.length := ⟨_, rfl⟩
      have HCH2 := hide (show rest.take m ++ rest2 = rest by rw [hrest2]; exact List.take_append_drop _ _)
      obtain ⟨ch, hch2⟩ : ∃ ch, ch = rest.take m := ⟨_, rfl⟩
      rw [← hch2] at HSRC HCH HSP Hsll Hch HCH2
      rw [← hnr] at hN hpos HM hm1 HR2 hcap HCUT ⊢
      have HNR := hide hnr
      clear hi hcell hsrc hA2 hm hch hsll hblk hNn hr ha hlf hal hll hrest2 hch2 hnr
      obtain ⟨Nm, hNm⟩ : ∃ Nm, Nm = N + m := ⟨_, rfl⟩
      have hb3 : Nm ≤ 1000000000000 := by have := HNn.out; omega
      have e6 : IntKind.u64.wrap ((N : Int) + (m : Int)) = (Nm : Int) := by rw [IntKind.wrap_u64]; omega
      have HNm := hide hNm
      have HCN : Hid (cur.length = N) := HNn.out.symm
      by_cases hfull : r + m = 64
      · have e7 : Int.tmod (Nm : Int) 64 = 0 := by have := Hrr.out; rw [Int.tmod_eq_emod_of_nonneg (by omega)]; omega
        have hsl0 : ∀ w, Sem.run Tryd.prog (Instr.sliceAt 99 (.pointer (some ⟨g, 8, none⟩)) none none none) w = .ok (.slice (some ⟨g, 8, none⟩) 64 64) w := fun w => run_slice_arr0 (P := Tryd.prog) (t := 99) (e := 5) (N := 64) (by kernel_rfl) (by kernel_rfl) g 8 (by omega) w
        clear hNm
        go_wp2_with fail
        go_still_tail 10, (by kernel_rfl)
        change wpList _ _ _ _ _ wr.drew
        go_wp2_with (first | ((with_reducible refine wpl_copy rfl (.tmp 16) (.tmp 17) rfl g (8 + r) (64 - r) (64 - r) ad nr c m rfl rfl (cellsS a lf N) _ HB.out (cellsB ch) HCH.out HM.out HSRC.out HFIT.out (cellsB_one _) ?_); intro w2 hB2 hF2; rw [HSP.out] at hB2; have hc2 : w2.cell? ⟨g, 72, none⟩ = some (.int .u64 (N : Int)) := (by rw [hB2.cell, List.getElem?_toArray]; exact cellsS_last _ _ _ Hal.out Hsll.out); have hf2 := hB2.frozen 72) | (with_reducible refine wpl_cut (op := ⟨some 21, _, _, _, _, _⟩) rfl _ _ rfl (some ad) A2 nr c m .i64 rfl rfl hm1 hcap HA2.out ?_))
        have hB3 := hB2.set 72 (.int .u64 (Nm : Int))
        rw [List.setIfInBounds_toArray, cellsS_taken _ _ _ _ Hal.out Hsll.out] at hB3
        have hF3 : Frm (fun k => k = g) wr (w2.setCell ⟨g, 72, none⟩ (.int .u64 (Nm : Int))) := (((Frm.refl _ wr).drew).trans hF2 (fun _ _ h => h)).trans (Frm.setCell _ _ _ (fun k => k = g) rfl) (fun _ _ h => h)
        generalize w2.setCell ⟨g, 72, none⟩ (.int .u64 (Nm : Int)) = w3 at *
        have hG3 : Gl w3 := HG.out.frm hF3 (by omega) (by omega)
        have hs3 := HCUT.out.frm hF3
        clear hB2 hF2 hc2 hf2
        refine (addBlock_any g a (splice lf r ch) Nm w3 hG3 hB3 Hal.out Hsll.out hg2).mono ?_
        rintro e w4 ⟨rfl, hB4, hF4⟩
        have hl4 : 8 + 64 ≤ (cellsS (addB a (splice lf r ch)) (splice lf r ch) Nm).length := by rw [cellsS_length, Hsll.out, addB_length _ _ Hal.out]; omega
        have HL4 := hide hl4
        clear hl4
        go_wp2_with ((with_reducible refine wpl_clear rfl (.tmp 42) rfl g 8 64 64 rfl (by omega) _ _ hB4 HL4.out ?_); intro w5 hB5 hF5)
        go_roundw
        case rel =>
          have h5 : splice (cellsS (addB a (splice lf r ch)) (splice lf r ch) Nm) 8 (cellsB (List.replicate 64 0)) = cellsS (addB a (splice lf r ch)) (List.replicate 64 0) Nm := by
            rw [cellsS_splice _ _ (List.replicate 64 0) Nm 0 (addB_length _ _ Hal.out) (by rw [Hsll.out]; simp), splice_all _ _ (by rw [Hsll.out]; rfl)]
          rw [h5] at hB5
          have F : Frm (fun k => k = g) wr w5 := (hF3.trans hF4 (fun _ _ h => h)).trans hF5 (fun _ _ h => h)
          have hcl : cur.length % 64 + ch.length = 64 := by rw [Hch.out, HCN.out, ← Hrr.out]; exact hfull
          have hst : St w5 g (cur ++ ch) := by
            show Blk _ _ _ _
            rw [added_full _ _ hcl, left_done _ _ hcl, List.length_append, HCN.out, Hch.out, ← HNm.out, ← HCN.out, ← Ha.out, ← left_full _ _ hcl, ← Hlf.out, HCN.out, ← Hrr.out]
            exact hB5
          have fin : ∃ (pre rest : List UInt8) (A : Option Addr) (c' : Nat), b = pre ++ rest ∧ Value.slice A2 (nr - m) (c - m) = .slice A rest.length c' ∧ WriteInv w g (l ++ pre) rest A c' w5 := ⟨pre ++ ch, rest2, A2, c - m, by rw [HPR.out, List.append_assoc, HCH2.out], by rw [HR2.out], ⟨by rw [← List.append_assoc, ← HC.out]; exact hst, HG.out.frm F (by omega) (by omega), by rw [HR2.out]; exact HCUT.out.frm F, by rw [HR2.out]; omega, HF.out.trans F (fun _ _ h => h)⟩⟩
          first | exact fin | ((repeat apply Exists.intro); exact ⟨fin, rfl⟩)
        case measure => (change nr - m < nr; omega)
      · have e7 : Int.tmod (Nm : Int) 64 = ((r + m : Nat) : Int) := by have := Hrr.out; rw [Int.tmod_eq_emod_of_nonneg (by omega)]; omega
        obtain ⟨rm, hrm⟩ : ∃ rm, rm = r + m := ⟨_, rfl⟩
        rw [← hrm] at e7
        have e8 : ((rm : Int) == 0) = false := by simp; omega
        have hrm0 : ¬ rm = 0 := by omega
        have HRM := hide hrm
        clear hrm hNm
        go_wp2_with fail
        go_still_tail 10, (by kernel_rfl)
        change wpList _ _ _ _ _ wr.drew
        go_wp2_with (first | ((with_reducible refine wpl_copy rfl (.tmp 16) (.tmp 17) rfl g (8 + r) (64 - r) (64 - r) ad nr c m rfl rfl (cellsS a lf N) _ HB.out (cellsB ch) HCH.out HM.out HSRC.out HFIT.out (cellsB_one _) ?_); intro w2 hB2 hF2; rw [HSP.out] at hB2; have hc2 : w2.cell? ⟨g, 72, none⟩ = some (.int .u64 (N : Int)) := (by rw [hB2.cell, List.getElem?_toArray]; exact cellsS_last _ _ _ Hal.out Hsll.out); have hf2 := hB2.frozen 72) | (with_reducible refine wpl_cut (op := ⟨some 21, _, _, _, _, _⟩) rfl _ _ rfl (some ad) A2 nr c m .i64 rfl rfl hm1 hcap HA2.out ?_))
        have hB3 := hB2.set 72 (.int .u64 (Nm : Int))
        rw [List.setIfInBounds_toArray, cellsS_taken _ _ _ _ Hal.out Hsll.out] at hB3
        have hF3 : Frm (fun k => k = g) wr (w2.setCell ⟨g, 72, none⟩ (.int .u64 (Nm : Int))) := (((Frm.refl _ wr).drew).trans hF2 (fun _ _ h => h)).trans (Frm.setCell _ _ _ (fun k => k = g) rfl) (fun _ _ h => h)
        go_roundw
        case rel =>
          have hcl : cur.length % 64 + ch.length < 64 := by rw [Hch.out, HCN.out, ← Hrr.out]; omega
          have hst : St (w2.setCell ⟨g, 72, none⟩ (.int .u64 (Nm : Int))) g (cur ++ ch) := by
            show Blk _ _ _ _
            rw [added_step _ _ hcl, ← left_step _ _ hcl, List.length_append, HCN.out, Hch.out, ← HNm.out, ← HCN.out, ← Ha.out, ← Hlf.out, HCN.out, ← Hrr.out]
            exact hB3
          have fin : ∃ (pre rest : List UInt8) (A : Option Addr) (c' : Nat), b = pre ++ rest ∧ Value.slice A2 (nr - m) (c - m) = .slice A rest.length c' ∧ WriteInv w g (l ++ pre) rest A c' (w2.setCell ⟨g, 72, none⟩ (.int .u64 (Nm : Int))) := ⟨pre ++ ch, rest2, A2, c - m, by rw [HPR.out, List.append_assoc, HCH2.out], by rw [HR2.out], ⟨by rw [← List.append_assoc, ← HC.out]; exact hst, HG.out.frm hF3 (by omega) (by omega), by rw [HR2.out]; exact HCUT.out.frm hF3, by rw [HR2.out]; omega, HF.out.trans hF3 (fun _ _ h => h)⟩⟩
          first | exact fin | ((repeat apply Exists.intro); exact ⟨fin, rfl⟩)
        case measure => (change nr - m < nr; omega)
    · have hr0 : rest = [] := List.eq_nil_of_length_eq_zero (by omega)
      subst hr0
      rw [List.append_nil] at HPR
      have hs := hi.st
      rw [HC.out, ← HPR.out] at hs
      have H1 := hide hs
      have H2 := hide hi.frm
      clear hs hi HC HPR
      go_wp2_with fail
      exact end0 rfl rfl ⟨rfl, H1.out, H2.out⟩
end Go.Proofs.YtjicnfkodieaaaaDoor
