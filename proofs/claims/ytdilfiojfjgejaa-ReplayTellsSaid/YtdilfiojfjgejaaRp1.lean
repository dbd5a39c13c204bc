/-
  Tags in memory: two maps and two numbers; New, Len, Floor.
-/
import Derived.Test.YtdilfiojfjgejaaRpL
import Derived.Test.YtdilfiojfjgejaaMp
import Derived.Test.YtdilfiojfjgejaaHqX
import Derived.Test.YtdilfiojfjgejaaQFrame
import Derived.Deep.RegionHeld3
namespace Go.Proofs.Ytdilfiojfjgejaa
set_option linter.unusedVariables false
set_option linter.unusedSimpArgs false
open Go.RowKit

theorem frm_ft {w w1 w2 : World} (h : Frm (fun _ => False) w w1) (k : Frm (fun _ => False) w1 w2) : Frm (fun _ => False) w w2 := h.trans k (fun _ _ h => h)
theorem frm_fs {S : Nat → Prop} (w : World) {w1 w2 : World} (h : Frm (fun _ => False) w w1) (k : Frm S w1 w2) (hS : ∀ i, S i → w.heap.size ≤ i) : Frm (fun _ => False) w w2 := h.trans k (fun i hi e => by have := hS i e; omega)
theorem frm_any {S : Nat → Prop} {w w1 : World} (h : Frm (fun _ => False) w w1) : Frm S w w1 := h.mono (fun _ _ h => h.elim)

theorem aggX : Agg Try.prog 30 16 := Agg.of (by kernel_rfl) (by kernel_rfl)
theorem aggK : Agg Try.prog 51 17 := Agg.of (by kernel_rfl) (by kernel_rfl)
theorem aggU : Agg Try.prog 49 0 := Agg.of (by kernel_rfl) (by kernel_rfl)
theorem zeroU : (Try.prog.info? 49).map (fun i => i.zero) = some (some (.agg ([] : List Value).toArray)) := by kernel_rfl
theorem zeroK : (Try.prog.info? 51).map (fun i => i.zero) = some (some (.agg (entC ⟨0, tg0⟩).toArray)) := by kernel_rfl
theorem zeroI : (Try.prog.info? 3).map (fun i => i.zero) = some (some (.int .i64 0)) := by kernel_rfl
theorem zero_of {P : Program} {t : TypeId} {z : Value} (hz : (P.info? t).map (fun i => i.zero) = some (some z)) (w : World) : (zeroValue t).run P w = .ok z w := by
  cases hq : P.info? t with
  | none => simp [hq] at hz
  | some i => simp [hq] at hz; simp [zeroValue, typeInfo, hq, hz]
theorem entC_eq (e : Nat) (x : Tg) : entC ⟨e, x⟩ = .int .u32 (e : Int) :: tgC x := rfl

/-! The stamps' map. -/
theorem rowK : (51 : TypeId) < Try.prog.types.size := of_decide_eq_true (by kernel_rfl)
theorem wideK : (match Try.prog.underlying 51 with | some (.array _ _) | some (.struct _) => true | _ => false) = true := by rw [Try.underlying51]
set_option maxRecDepth 100000 in
theorem lawK : Maps.Keyed Try.prog 51 := .of_law (deep_law_laid laidOut (m := 4) (by omega) rowK (by kernel_rfl) wideK)
theorem keyT : Try.prog.keyType 51 = true := by kernel_rfl
theorem cellsK : Try.prog.cellsOf 51 = 17 := by kernel_rfl
theorem cellsX : Try.prog.cellsOf 30 = 16 := by kernel_rfl
theorem cells8 : Try.prog.cellsOf 5 = 1 := by kernel_rfl
theorem cells32 : Try.prog.cellsOf 28 = 1 := by kernel_rfl
theorem mapM_ex {α β : Type} {f : α → Option β} : ∀ l : List α, (∀ i ∈ l, ∃ y, f i = some y) → ∃ ys, l.mapM f = some ys
  | [], _ => ⟨[], rfl⟩
  | i :: l, h => by
    obtain ⟨y, hy⟩ := h i (List.mem_cons_self ..)
    obtain ⟨ys, hys⟩ := mapM_ex l (fun j hj => h j (List.mem_cons_of_mem _ hj))
    exact ⟨y :: ys, by simp [List.mapM_cons, hy, hys]⟩
theorem lits_tag (d : Nat) (x : Tg) : ∃ l, Try.prog.keyLits (d + 2) 30 (tgC x) = some l := by
  unfold Program.keyLits
  rw [Try.underlying30]
  simp only [cellsX, tgC_length, if_true, cells8]
  obtain ⟨ys, hys⟩ := mapM_ex (f := fun i => Try.prog.keyLits (d + 1) 5 (((tgC x).drop (i * 1)).take 1)) (List.range 16) (fun i hi => by
    have hi16 : i < x.1.length := by rw [x.2]; simpa using hi
    have e : ((tgC x).drop (i * 1)).take 1 = [.int .u8 (x.1[i].toNat : Int)] := by
      have h1 : i < (tgC x).length := by rw [tgC_length]; simpa using hi
      rw [Nat.mul_one, List.drop_eq_getElem_cons h1, List.take_succ_cons, List.take_zero]
      simp [tgC, cellsB]
    have hw : (Lit.int .u8 (x.1[i].toNat : Int)).wf = true := by
      have := x.1[i].toNat_lt
      simp [Lit.wf, IntKind.bits, IntKind.signed, IntKind.min, IntKind.max]; omega
    refine ⟨[.int .u8 (x.1[i].toNat : Int)], ?_⟩
    rw [e]
    unfold Program.keyLits
    rw [Try.underlying5]
    simp [hw])
  exact ⟨ys.flatten, by rw [hys]; rfl⟩
theorem u32_wf {n : Nat} (h : n < 4294967296) : (Lit.int .u32 (n : Int)).wf = true := by
  simp [Lit.wf, IntKind.bits, IntKind.signed, IntKind.min, IntKind.max]; omega
set_option maxRecDepth 100000 in
theorem key_some (s : Ent) (h : s.ok) : ∃ l, keyOf Try.prog 51 (.agg (entC s).toArray) = some l := by
  have hs : ∃ d, Try.prog.types.size + 1 = d + 3 := ⟨Try.prog.types.size - 2, by have h1 : 2 ≤ Try.prog.types.size := Nat.le_of_lt (Nat.lt_of_le_of_lt (by decide : 2 ≤ (51 : TypeId)) rowK); omega⟩
  obtain ⟨d, hd⟩ := hs
  obtain ⟨lx, hlx⟩ := lits_tag d s.x
  have hl : Try.prog.keyLits (d + 3) 51 (entC s) = some ([.int .u32 (s.e : Int)] ++ lx) := by
    unfold Program.keyLits
    rw [Try.underlying51]
    have e1 : (entC s).take 1 = [.int .u32 (s.e : Int)] := rfl
    have e2 : (entC s).tail.take 16 = tgC s.x := by
      show (tgC s.x).take 16 = _
      exact List.take_of_length_le (by rw [tgC_length]; exact Nat.le_refl _)
    have e3 : Try.prog.keyLits (d + 2) 28 [.int .u32 (s.e : Int)] = some [.int .u32 (s.e : Int)] := by
      unfold Program.keyLits
      rw [Try.underlying28]
      simp [u32_wf h]
    simp [cellsK, entC_length, cells32, cellsX, e1, e2, e3, hlx]
  unfold keyOf
  rw [Try.underlying51]
  have hfm : (Value.agg (entC s).toArray).formed Try.prog 51 = true := by simp [Value.formed, Try.underlying51, cellsK, entC_length]
  simp only [keyT, hfm, Bool.and_self, if_true]
  rw [hd]
  have : (Value.agg (entC s).toArray).cells.toList = entC s := rfl
  rw [this, hl]
  exact ⟨_, rfl⟩
def KS : MapK Try.prog Ent where
  mt := 45
  kt := 51
  et := 49
  key := fun s => .agg (entC s).toArray
  val := fun _ => .agg #[]
  zero := .agg #[]
  ok := Ent.ok
  law := lawK
  und := Try.underlying45
  some_ := key_some
  zer := zero_of zeroU
  inj := fun x y h _ => by
    injection h with h
    exact entC_inj (by simpa using congrArg Array.toList h)
theorem KS_key {x y : Ent} (h : KS.key x = KS.key y) : x = y := KS.inj x y h rfl

/-! The counts' map. -/
structure Cn where
  e : Nat
  n : Nat
def KC : MapK Try.prog Cn where
  mt := 46
  kt := 28
  et := 3
  key := fun c => .int .u32 (c.e : Int)
  val := fun c => .int .i64 (c.n : Int)
  zero := .int .i64 0
  ok := fun c => c.e < 4294967296
  law := Maps.int_keyed Try.underlying28
  und := Try.underlying46
  some_ := fun c h => ⟨_, Maps.keyOf_int_mk Try.underlying28 (u32_wf h)⟩
  zer := zero_of zeroI
  inj := fun x y h k => by
    injection h with _ h
    injection k with _ k
    cases x; cases y
    simp only [Cn.mk.injEq]
    simp only at h k
    omega
theorem KC_key {x y : Cn} (h : KC.key x = KC.key y) : x.e = y.e := by
  injection h with _ h
  omega
/-- The counts are those of the tags. -/
structure CntOk (C : List Cn) (l : List Ent) : Prop where
  apart : (C.map (·.e)).Nodup
  says : ∀ c ∈ C, c.n = cnt l c.e
  all : ∀ s ∈ l, ∃ c ∈ C, c.e = s.e
theorem CntOk.none {C : List Cn} {l : List Ent} (h : CntOk C l) {e : Nat} (he : ∀ c ∈ C, c.e ≠ e) : cnt l e = 0 := by
  unfold cnt
  rw [List.countP_eq_zero]
  intro s hs
  obtain ⟨c, hc, hce⟩ := h.all s hs
  have := he c hc
  simp only [beq_iff_eq]
  omega

/-- Tags in block g; their maps are bs and bc. -/
structure TAt (w : World) (B g : Nat) (t : T) (bs bc : Nat) : Prop where
  base : B ≤ g ∧ B ≤ bs ∧ B ≤ bc
  blk : Blk w g 48 #[.map (some bs), .map (some bc), .int .i64 (t.most : Int), .int .u32 (t.floor : Int)]
  seen : MapAt KS w bs t.l
  count : ∃ C, MapAt KC w bc C ∧ CntOk C t.l
  ne : bs ≠ bc
  ok : t.ok
section
variable {w w' : World} {B g bs bc : Nat} {t : T}
theorem TAt.frm {S : Nat → Prop} (h : TAt w B g t bs bc) (f : Frm S w w') (h1 : ¬ S g) (h2 : ¬ S bs) (h3 : ¬ S bc) : TAt w' B g t bs bc :=
  ⟨h.base, h.blk.frm f h1, h.seen.frm f h2, (by obtain ⟨C, hc, hk⟩ := h.count; exact ⟨C, hc.frm f h3, hk⟩), h.ne, h.ok⟩
theorem TAt.frm0 (h : TAt w B g t bs bc) (f : Frm (fun _ => False) w w') : TAt w' B g t bs bc := h.frm f (fun h => h) (fun h => h) (fun h => h)
theorem TAt.based {B' : Nat} (h : TAt w B g t bs bc) (hB : B' ≤ B) : TAt w B' g t bs bc := ⟨by have := h.base; omega, h.blk, h.seen, h.count, h.ne, h.ok⟩
theorem TAt.neg (h : TAt w B g t bs bc) : bs ≠ g ∧ bc ≠ g := ⟨h.seen.ne h.blk, by obtain ⟨C, hc, _⟩ := h.count; exact hc.ne h.blk⟩
theorem TAt.lt (h : TAt w B g t bs bc) : g < w.heap.size ∧ bs < w.heap.size ∧ bc < w.heap.size := ⟨h.blk.lt, h.seen.lt, by obtain ⟨C, hc, _⟩ := h.count; exact hc.lt⟩
end
/-- The blocks of some tags. -/
def Of (g bs bc : Nat) : Nat → Prop := fun k => k = g ∨ k = bs ∨ k = bc

set_option maxHeartbeats 1000000 in
theorem new_any (m : Int) (hm : m ≤ 9223372036854775807) (w : World) : Calls Try.prog 9 #[.int .i64 m] w fun e w' => ∃ g bs bc, e = .returned (.pointer (some ⟨g, 0, none⟩)) ∧ TAt w' w.heap.size g (newT m) bs bc ∧ Frm (fun _ => False) w w' := by
  have HOK := hide (newT_ok hm)
  obtain ⟨k, hk⟩ : ∃ k, k = if m < 1 then 1 else m := ⟨_, rfl⟩
  have HM : Hid (((newT m).most : Int) = k) := by rw [hk]; exact newT_most m
  have HK := hide hk
  clear hk hm
  go_enter Try.func9, Try.ntmps9
  go_wp2_with (first
    | (refine wpl_makeMap KS (op := ⟨some 3, _, _, _, _, _⟩) rfl rfl ?_; intro bs w1 hs hB1 f1; have HS1 := hide hs; have HB1 := hide hB1; have HF1 := hide f1; clear hs hB1 f1)
    | (refine wpl_makeMap KC (op := ⟨some 4, _, _, _, _, _⟩) rfl rfl ?_; intro bc w2 hc hB2 f2; have HC2 := hide hc; have HB2 := hide hB2; have HF2 := hide f2; clear hc hB2 f2)
    | (refine wpl_max rfl (.tmp 5) (.const (.int .i64 1)) _ _ rfl _ m 1 k rfl rfl HK.out ?_))
  go_ret
  have f3 : Frm (fun _ => False) w2 (w2.alloc (.cells #[.map (some bs), .map (some bc), .int .i64 k, .int .u32 0] 48)) := Frm.alloc _ _ _
  have b3 := Blk.new w2 48 #[.map (some bs), .map (some bc), .int .i64 k, .int .u32 0]
  have hsz1 := HF1.out.size
  have hsz2 := HF2.out.size
  have hlt := HS1.out.lt
  refine ⟨_, bs, bc, rfl, ⟨⟨by omega, HB1.out, by have := HB2.out; omega⟩, ?_, HS1.out.frm (frm_ft HF2.out f3) (fun h => h), ⟨[], HC2.out.frm f3 (fun h => h), ⟨List.nodup_nil, (fun _ h => by cases h), (fun _ h => by cases h)⟩⟩, by have := HB2.out; omega, HOK.out⟩, frm_ft (frm_ft HF1.out HF2.out) f3⟩
  rw [HM.out]
  exact b3

set_option maxHeartbeats 1000000 in
theorem floor_any (B g bs bc : Nat) (t : T) (w : World) (h : TAt w B g t bs bc) : Calls Try.prog 19 #[.pointer (some ⟨g, 0, none⟩)] w fun e w' => e = .returned (.int .u32 (t.floor : Int)) ∧ w' = w := by
  have h0 : w.cell? ⟨g, 3, none⟩ = some (.int .u32 (t.floor : Int)) := h.blk.cell 3
  obtain ⟨n, hn⟩ : ∃ n, n = t.floor := ⟨_, rfl⟩
  rw [← hn] at h0 ⊢
  clear hn h
  go_enter Try.func19, Try.ntmps19
  go_wp2_with fail
  go_ret
  exact ⟨rfl, rfl⟩
/-- What is told of an epoch's count. -/
theorem held_count {w : World} {bc : Nat} {C : List Cn} {l : List Ent} (hc : MapAt KC w bc C) (hk : CntOk C l) {e : Nat} (he : e < 4294967296) {op : Oper} {a : Act} (m k : Operand) (ho : op.op = .lookup 46 m k false)
    (hm : a.eval m = .map (some bc)) (hx : a.eval k = .int .u32 (e : Int)) : (execOp a.eval op).run Try.prog w = .ok (.value (.int .i64 (cnt l e : Int))) w := by
  rcases held_look (K := KC) hc m k false ho ⟨e, 0⟩ hm hx he with ⟨h1, h2⟩ | ⟨c, h1, h2, h3⟩
  · have h4 : cnt l e = 0 := hk.none (fun c hc2 h => h1 c hc2 (by show Value.int _ _ = Value.int _ _; rw [h]))
    rw [h2, h4]
    rfl
  · have h4 : c.e = e := KC_key h2
    rw [h3, ← h4, ← hk.says c h1]
    rfl
set_option maxHeartbeats 1000000 in
theorem len_any (B g bs bc : Nat) (t : T) (e : Nat) (he : e < 4294967296) (w : World) (h : TAt w B g t bs bc) : Calls Try.prog 17 #[.pointer (some ⟨g, 0, none⟩), .int .u32 (e : Int)] w fun r w' => r = .returned (.int .i64 (t.len e : Int)) ∧ w' = w := by
  obtain ⟨C, hc, hk⟩ := h.count
  have h0 : w.cell? ⟨g, 1, none⟩ = some (.map (some bc)) := h.blk.cell 1
  obtain ⟨n, hn⟩ : ∃ n, n = cnt t.l e := ⟨_, rfl⟩
  have HN := hide hn
  unfold T.len
  rw [← hn]
  clear h hn
  have HC := hide hc
  have HK := hide hk
  clear hc hk
  go_enter Try.func17, Try.ntmps17
  go_wp2_with (refine wpl_held (op := ⟨some 10, _, _, _, _, _⟩) _ (held_count HC.out HK.out he (.tmp 8) (.tmp 9) rfl rfl rfl) rfl ?_; rw [← HN.out])
  go_ret
  exact ⟨rfl, rfl⟩
end Go.Proofs.Ytdilfiojfjgejaa
