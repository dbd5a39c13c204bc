/-
  Heaps of int: New, Next, Push, Pop, told by queues.
-/
import Derived.Test.YtjpmicjlbkdcbaaHqI2
namespace Go.Proofs.Ytjpmicjlbkdcbaa.hI
set_option linter.unusedVariables false
set_option linter.unusedSimpArgs false
open Go.RowKit

/-- A heap in block g that holds a queue's things, its blocks from B on; rw: its row. -/
def HeapAt (w : World) (B g : Nat) (rw : Option Nat) (q : Qu) : Prop :=
  B ≤ g ∧ ∃ A n c L, Blk w g 58 #[.slice A n c, .int .i64 q.most, .int .u64 (q.num : Int)] ∧ TOwn w 60 .i64 B A n c L ∧ Like L q.S ∧ rowOf A = rw ∧ q.ok
section
variable {w w' : World} {B g : Nat} {rw : Option Nat} {q : Qu}
theorem HeapAt.frm {S : Nat → Prop} (h : HeapAt w B g rw q) (f : Frm S w w') (hg : ¬ S g) (hr : ∀ k, rw = some k → ¬ S k) : HeapAt w' B g rw q := by
  obtain ⟨hB, A, n, c, L, hb, ho, hl, e, hk⟩ := h
  exact ⟨hB, A, n, c, L, hb.frm f hg, ho.frm f (fun k hk => hr k (by rw [← e]; exact hk)), hl, e, hk⟩
theorem HeapAt.frm0 (h : HeapAt w B g rw q) (f : Frm (fun _ => False) w w') : HeapAt w' B g rw q := h.frm f (fun h => h) (fun _ _ h => h)
theorem HeapAt.base {B' : Nat} (h : HeapAt w B g rw q) (hB : B' ≤ B) : HeapAt w B' g rw q := by
  obtain ⟨h1, A, n, c, L, hb, ho, hl, e, hk⟩ := h
  exact ⟨Nat.le_trans hB h1, A, n, c, L, hb, ho.base hB, hl, e, hk⟩
theorem HeapAt.ok (h : HeapAt w B g rw q) : q.ok := by obtain ⟨_, A, n, c, L, hb, ho, hl, e, hk⟩ := h; exact hk
theorem HeapAt.lt (h : HeapAt w B g rw q) : B ≤ g ∧ g < w.heap.size := by obtain ⟨h1, A, n, c, L, hb, ho, hl, e, hk⟩ := h; exact ⟨h1, hb.lt⟩
theorem HeapAt.row (h : HeapAt w B g rw q) : ∀ k, rw = some k → B ≤ k ∧ k < w.heap.size ∧ k ≠ g := by
  obtain ⟨h1, A, n, c, L, hb, ho, hl, e, hk⟩ := h
  intro k hk
  have := ho.ge k (by rw [e]; exact hk)
  exact ⟨this.1, this.2, fun e2 => ho.ne hb (by decide) (by rw [e, hk, e2])⟩
theorem HeapAt.drewN (h : HeapAt w B g rw q) (k : Nat) : HeapAt (w.drewN k) B g rw q := h
end
theorem lens_any (B g : Nat) (rw : Option Nat) (q : Qu) (w : World) (h : HeapAt w B g rw q) : Calls Try.prog 18 #[.pointer (some ⟨g, 0, none⟩)] w fun e w' => e = .returned (.int .i64 (q.S.length : Int)) ∧ w' = w := by
  obtain ⟨_, A, n, c, L, hb, ho, hl, _, _⟩ := h
  have := len_any g n c A w (hb.cell 0)
  rwa [← ho.len, hl.length] at this

set_option maxHeartbeats 1000000 in
theorem new_any (m : Int) (w : World) : Calls Try.prog 10 #[.int .i64 m] w fun e w' => ∃ g, e = .returned (.pointer (some ⟨g, 0, none⟩)) ∧ HeapAt w' w.heap.size g none (newQ m) ∧ Frm (fun _ => False) w w' := by
  obtain ⟨k, hk⟩ : ∃ k, k = if m < 1 then 1 else m := ⟨_, rfl⟩
  have HK := hide hk
  clear hk
  go_enter Try.func10, Try.ntmps10
  go_wp2_with (refine wpl_max rfl (.tmp 3) (.const (.int .i64 1)) _ _ rfl _ m 1 k rfl rfl HK.out ?_)
  go_ret
  refine ⟨_, rfl, ⟨Nat.le_refl _, none, 0, 0, [], ?_, TOwn.nil _ _, Like.nil, rfl, Qu.ok.new m⟩, Frm.alloc _ _ _⟩
  have := Blk.new w 58 #[.slice none 0 0, .int .i64 k, .int .u64 0]
  show Blk _ _ _ #[.slice none 0 0, .int .i64 (if m < 1 then 1 else m), .int .u64 0]
  rw [← HK.out]
  exact this

/-- What Next tells. -/
def nextV (q : Qu) : Array Value := match q.S with | [] => #[.int .u64 0, .bool false] | s :: _ => #[.int .u64 (s.t : Int), .bool true]
set_option maxHeartbeats 1000000 in
theorem next_any (B g : Nat) (rw : Option Nat) (q : Qu) (w : World) (h : HeapAt w B g rw q) : Calls Try.prog 16 #[.pointer (some ⟨g, 0, none⟩)] w fun e w' => e = .returned (.tuple (nextV q)) ∧ w' = w := by
  have HL := hide (lens_any B g rw q w h)
  obtain ⟨_, A, n, c, L, hb, ho, hl, _, _⟩ := h
  have h0 : w.cell? ⟨g, 0, none⟩ = some (.slice A n c) := hb.cell 0
  have hln := ho.len
  rw [hl.length] at hln
  unfold nextV
  cases hS : q.S with
  | nil =>
    rw [hS] at HL hln
    obtain rfl : n = 0 := hln.symm
    simp only [List.length_nil] at HL
    simp only
    clear hln hS hl ho hb
    go_enter Try.func16, Try.ntmps16
    go_wp2_with (go_at_call 18; refine HL.out.mono ?_; rintro e w2 ⟨rfl, hW2⟩; subst hW2)
    go_ret2
    exact ⟨rfl, rfl⟩
  | cons s S =>
    rw [hS] at HL hln hl
    simp only
    rcases ho.row with ⟨_, h1, _, _⟩ | ⟨r, rfl, _, hr⟩
    · rw [h1] at hln; simp at hln
    · have hc := (hr.cells 0 (by rw [ho.len, ← hln]; simp)).1
      rw [hl.head, Nat.zero_mul] at hc
      have hn : 0 < n := by rw [← hln]; simp
      have hn' : (0 : Int) < (n : Int) := by omega
      obtain ⟨k, hk⟩ : ∃ k : Nat, k = (s :: S).length := ⟨_, rfl⟩
      rw [← hk] at HL hln
      have hk0 : ((k : Int) == 0) = false := beq_eq_false_iff_ne.2 (by omega)
      clear hl ho hr hb hS hk hln
      go_enter Try.func16, Try.ntmps16
      go_wp2_with (go_at_call 18; refine HL.out.mono ?_; rintro e w2 ⟨rfl, hW2⟩; subst hW2)
      go_ret2
      exact ⟨rfl, rfl⟩

/-- What Push tells. -/
def pushV (q : Qu) : Array Value := if q.full then #[.int .u64 0, .int .i64 8] else #[.int .u64 (q.num : Int), .int .i64 0]
set_option maxHeartbeats 4000000 in
set_option maxRecDepth 100000 in
theorem push_any (B g : Nat) (rw : Option Nat) (q : Qu) (t : Nat) (x : Int) (w : World) (h : HeapAt w B g rw q) (ht : t < 18446744073709551616) (hs : q.S.length ≤ 50000) (hnum : q.num ≤ 50000) :
    Calls Try.prog 12 #[.pointer (some ⟨g, 0, none⟩), .int .u64 (t : Int), .int .i64 x] w fun e w' => e = .returned (.tuple (pushV q)) ∧ ∃ rw', HeapAt w' B g rw' (q.push t x) ∧ (rw' = rw ∨ ∃ k, rw' = some k ∧ w.heap.size ≤ k) ∧ Frm (fun k => k = g ∨ some k = rw) w w' := by
  have HL := hide (fun k => lens_any B g rw q (w.drewN k) (h.drewN k))
  have HH := hide h
  obtain ⟨hBg, A, n, c, L, hb, ho, hl, hrw, hok⟩ := h
  have h0 : w.cell? ⟨g, 0, none⟩ = some (.slice A n c) := hb.cell 0
  have h1 : w.cell? ⟨g, 1, none⟩ = some (.int .i64 q.most) := hb.cell 1
  have h2 : w.cell? ⟨g, 2, none⟩ = some (.int .u64 (q.num : Int)) := hb.cell 2
  have z2 := hb.frozen 2
  have hln := ho.len
  rw [hl.length] at hln
  rw [hln] at HL hs
  obtain ⟨most, hm⟩ : ∃ m, m = q.most := ⟨_, rfl⟩
  obtain ⟨num, hu⟩ : ∃ m, m = q.num := ⟨_, rfl⟩
  rw [← hm] at h1
  rw [← hu] at h2 hnum
  by_cases hf : q.full
  · have hf' : most ≤ (n : Int) := by rw [hm, ← hln]; exact hf
    have e1 : pushV q = #[.int .u64 0, .int .i64 8] := if_pos hf
    have e2 : q.push t x = q := if_pos hf
    rw [e1, e2]
    clear e1 e2 hf hm hu hln hb ho hl hok
    go_enter Try.func12, Try.ntmps12
    go_wp2_with fail
    go_quiet ((go_at_call 18; exact quiet_same ((HL.out _).mono fun _ _ ⟨a, b⟩ => ⟨a, b.symm⟩)))
    go_wp2_with fail
    go_ret2
    exact ⟨rfl, rw, HH.out, .inl rfl, (Frm.refl _ _).drewN _⟩
  · have hf' : decide (most ≤ (n : Int)) = false := decide_eq_false (by rw [hm, ← hln]; exact hf)
    have e1 : pushV q = #[.int .u64 (num : Int), .int .i64 0] := by rw [hu]; exact if_neg hf
    have e2 : q.push t x = ⟨most, num + 1, insT ⟨t, num, x⟩ q.S⟩ := by rw [hu, hm]; exact if_neg hf
    have HOK := hide (e2 ▸ hok.push x ht)
    have HNE := hide (fun y hy => Nat.ne_of_lt (hok.below y hy))
    rw [e1, e2]
    have HRISE : Hid (RiseL (L ++ [⟨t, num, x⟩]) n) := by show RiseL _ _; rw [← ho.len]; exact hl.2.1.push _
    have hneb : rowOf A ≠ some g := ho.ne hb (by decide)
    rw [← hm, ← hu] at hb
    have HU := hide hu
    have HM := hide hm
    have HB := hide hb
    have HO := hide ho
    have HLK := hide hl
    have HRW := hide hrw
    have HLEN := hide ho.len
    clear e1 e2 hf hm hu hln hb ho hl hok hrw
    go_enter Try.func12, Try.ntmps12
    go_wp2_with fail
    go_quiet ((go_at_call 18; exact quiet_same ((HL.out _).mono fun _ _ ⟨a, b⟩ => ⟨a, b.symm⟩)))
    rename_i nq
    clear HL
    have FIN : Hid (∀ A' c' W1 W2, W1.heap.size = w.heap.size + 1 → Frm (fun k => k = g) w W1 → Blk W1 g 58 #[.slice A n c, .int .i64 most, .int .u64 ((num : Int) + 1)] → TOwn W2 60 .i64 B A' (n + 1) c' (L ++ [⟨t, num, x⟩]) → Frm (fun k => some k = rowOf A) W1 W2 → (rowOf A' = rowOf A ∨ rowOf A' = some W1.heap.size) →
        (W2.cell? ⟨g, 0, none⟩ = some (.slice A n c) ∧ W2.frozen? ⟨g, 0, none⟩ = false) ∧ ∃ r, A' = some ⟨r, 0, none⟩ ∧ g ≠ r ∧ (W2.setCell ⟨g, 0, none⟩ (.slice A' (n + 1) c')).cell? ⟨g, 0, none⟩ = some (.slice A' (n + 1) c') ∧ Row (W2.setCell ⟨g, 0, none⟩ (.slice A' (n + 1) c')) r c' (L ++ [⟨t, num, x⟩]) ∧
          ∀ W3 L', Row W3 r c' L' → L'.Perm (L ++ [⟨t, num, x⟩]) → HeapL L' → Frm (fun k => k = r) (W2.setCell ⟨g, 0, none⟩ (.slice A' (n + 1) c')) W3 →
            ∃ rw', HeapAt W3 B g rw' ⟨most, num + 1, insT ⟨t, num, x⟩ q.S⟩ ∧ (rw' = rw ∨ ∃ k, rw' = some k ∧ w.heap.size ≤ k) ∧ Frm (fun k => k = g ∨ some k = rw) w W3) := by
      intro A' c' W1 W2 hsz f1 b1 o2 f2 hor
      have b2 := b1.frm f2 (fun e => hneb e.symm)
      rcases o2.row with ⟨_, h, _⟩ | ⟨r, rfl, hBr, hr⟩
      · omega
      · have hgr : g ≠ r := fun e => hr.ne b2 (by decide) e.symm
        have b3 := b2.set 0 (.slice (some ⟨r, 0, none⟩) (n + 1) c')
        refine ⟨⟨b2.cell 0, b2.frozen 0⟩, r, rfl, hgr, b3.cell 0, hr.frm (Frm.setCell _ _ _ (fun k => k = g) rfl) (fun e => hgr e.symm), fun W3 L' r3 hp hh f3 => ⟨some r, ⟨hBg, some ⟨r, 0, none⟩, n + 1, c', L', b3.frm f3 hgr, r3.own hBr (by rw [hp.length_eq, List.length_append, HLEN.out]; rfl), HLK.out.push (x := ⟨t, num, x⟩) (by rw [HU.out]; exact HNE.out) hp hh, rfl, HOK.out⟩, ?_, ?_⟩⟩
        · rcases hor with e | e
          · exact .inl (by rw [← HRW.out]; exact e)
          · right
            exact ⟨_, e, by omega⟩
        · have f12 : Frm (fun k => k = g ∨ some k = rw) w W2 := (f1.mono (T := fun k => k = g ∨ some k = rw) (fun _ _ h => .inl h)).trans f2 (fun _ _ h => .inr (by rw [h, HRW.out]))
          refine (f12.trans (Frm.setCell W2 ⟨g, 0, none⟩ _ (fun k => k = g) rfl) (fun _ _ h => .inl h)).trans f3 (fun k hk e => ?_)
          rcases hor with e2 | e2
          · exact .inr (by rw [← HRW.out, ← e2, e]; rfl)
          · have : r = W1.heap.size := Option.some.inj e2
            omega
    clear HLK HNE HOK HRW
    have fS : Frm (fun k => k = g) w ((w.drewN nq).setCell ⟨g, 2, none⟩ (.int .u64 ((num : Int) + 1))) := (Frm.setCell (w.drewN nq) ⟨g, 2, none⟩ _ (fun k => k = g) rfl).drewL
    have HF1 : Hid (Frm (fun k => k = g) w (((w.drewN nq).setCell ⟨g, 2, none⟩ (.int .u64 ((num : Int) + 1))).alloc (.cells #[.int .u64 (t : Int), .int .u64 (num : Int), .int .i64 x] 60))) := hide (fS.trans (Frm.alloc _ _ (fun k => k = g)) (fun _ _ h => h))
    have HB1 : Hid (Blk (((w.drewN nq).setCell ⟨g, 2, none⟩ (.int .u64 ((num : Int) + 1))).alloc (.cells #[.int .u64 (t : Int), .int .u64 (num : Int), .int .i64 x] 60)) g 58 #[.slice A n c, .int .i64 most, .int .u64 ((num : Int) + 1)]) := hide (Blk.frm ((show Blk (w.drewN nq) g 58 #[.slice A n c, .int .i64 most, .int .u64 (num : Int)] from HB.out).set 2 (.int .u64 ((num : Int) + 1))) (Frm.alloc _ _ (fun _ => False)) (fun h => h))
    have HO1 : Hid (TOwn (((w.drewN nq).setCell ⟨g, 2, none⟩ (.int .u64 ((num : Int) + 1))).alloc (.cells #[.int .u64 (t : Int), .int .u64 (num : Int), .int .i64 x] 60)) 60 .i64 B A n c L) := hide (HO.out.frm HF1.out (fun k hk e => hneb (by rw [hk, e])))
    have hS0 : ((w.drewN nq).setCell ⟨g, 2, none⟩ (.int .u64 ((num : Int) + 1))).heap.size = w.heap.size := by simp [World.setCell]
    have hnew := Blk.new ((w.drewN nq).setCell ⟨g, 2, none⟩ (.int .u64 ((num : Int) + 1))) 60 #[.int .u64 (t : Int), .int .u64 (num : Int), .int .i64 x]
    rw [hS0] at hnew
    have HS1 : Hid (SrcT (((w.drewN nq).setCell ⟨g, 2, none⟩ (.int .u64 ((num : Int) + 1))).alloc (.cells #[.int .u64 (t : Int), .int .u64 (num : Int), .int .i64 x] 60)) .i64 (some ⟨w.heap.size, 0, none⟩) 1 1 [⟨t, num, x⟩]) := hide (SrcT.one (s := ⟨t, num, x⟩) hnew)
    clear hnew hS0
    have hsz1 : (((w.drewN nq).setCell ⟨g, 2, none⟩ (.int .u64 ((num : Int) + 1))).alloc (.cells #[.int .u64 (t : Int), .int .u64 (num : Int), .int .i64 x] 60)).heap.size = w.heap.size + 1 := by simp [World.setCell]
    have hb1 : B ≤ (((w.drewN nq).setCell ⟨g, 2, none⟩ (.int .u64 ((num : Int) + 1))).alloc (.cells #[.int .u64 (t : Int), .int .u64 (num : Int), .int .i64 x] 60)).heap.size := by have := HB.out.lt; rw [hsz1]; omega
    have k0 := (HB1.out.frm (Frm.refl (fun _ => False) _) (fun h => h)).cell 0
    have HSZ := hide hsz1
    clear fS k0 hsz1 HO
    go_wp2_with (first
      | (refine wpl_appT isT (op := ⟨some 37, _, _, _, _, _⟩) rfl (.tmp 31) (.tmp 36) rfl _ B A n c L rfl HO1.out _ 1 1 [⟨t, num, x⟩] rfl HS1.out (n + 1) rfl (by omega) hb1 ?_
         intro A' c' W2 o2 f2 hor
         obtain ⟨⟨k0, z0⟩, r, rfl, hgr, k3, r3, hfin⟩ := FIN.out A' c' _ W2 HSZ.out HF1.out HB1.out o2 f2 hor
         have HFIN := hide hfin
         have HR3 := hide r3
         clear o2 f2 hor HO1 HS1 HF1 HB1 HSZ FIN hb1 h0 h1 h2 z2 hfin r3)
      | (go_at_call 18; refine (len_any g (n + 1) c' _ _ k3).mono ?_; rintro e w3 ⟨rfl, hw3⟩; subst hw3)
      | (go_at_call 23; refine (rise_any g r (n + 1) c' n _ _ k3 HR3.out (by rw [List.length_append, HLEN.out]; rfl) hgr (by omega) HRISE.out).mono ?_; rintro e w4 ⟨rfl, L', r4, hp4, hh4, f4⟩))
    go_ret2
    exact ⟨rfl, HFIN.out _ L' r4 hp4 hh4 f4⟩

/-- What Pop tells. -/
def popV (q : Qu) (now : Nat) : Array Value := match q.due now with | none => #[.int .i64 0, .int .u64 0, .bool false] | some s => #[.int .i64 s.x, .int .u64 (s.t : Int), .bool true]
set_option maxHeartbeats 4000000 in
set_option maxRecDepth 100000 in
theorem pop_any (B g : Nat) (rw : Option Nat) (q : Qu) (now : Nat) (w : World) (h : HeapAt w B g rw q) (hs : q.S.length ≤ 50000) :
    Calls Try.prog 14 #[.pointer (some ⟨g, 0, none⟩), .int .u64 (now : Int)] w fun e w' => e = .returned (.tuple (popV q now)) ∧ HeapAt w' B g rw (q.pop now) ∧ Frm (fun k => k = g ∨ some k = rw) w w' := by
  have HN := hide (next_any B g rw q w h)
  have HL := hide (fun k => lens_any B g rw q (w.drewN k) (h.drewN k))
  have HH := hide h
  cases hS : q.S with
  | nil =>
    have hd : q.due now = none := by unfold Qu.due; rw [hS]; rfl
    unfold popV
    rw [Qu.due_none hd, hd]
    unfold nextV at HN
    rw [hS] at HN
    simp only at HN ⊢
    clear h hd hS hs HL
    go_enter Try.func14, Try.ntmps14
    go_wp2_with (go_at_call 16; refine HN.out.mono ?_; rintro e w2 ⟨rfl, hW2⟩; subst hW2)
    go_ret3
    exact ⟨rfl, HH.out, Frm.refl _ _⟩
  | cons s S =>
    unfold nextV at HN
    rw [hS] at HN
    simp only at HN
    by_cases ht : now < s.t
    · have ht' : (now : Int) < (s.t : Int) := by omega
      have hd : q.due now = none := by unfold Qu.due; rw [hS]; simp [ht]
      unfold popV
      rw [Qu.due_none hd, hd]
      simp only
      clear h hd hS hs HL
      go_enter Try.func14, Try.ntmps14
      go_wp2_with (go_at_call 16; refine HN.out.mono ?_; rintro e w2 ⟨rfl, hW2⟩; subst hW2)
      go_ret3
      exact ⟨rfl, HH.out, Frm.refl _ _⟩
    · have ht' : ¬ (now : Int) < (s.t : Int) := by omega
      have hd : q.due now = some s := by unfold Qu.due; rw [hS]; simp [ht]
      have hq := (Qu.due_cons hd).2.2
      have HOK := hide (hq ▸ h.ok.pop now)
      unfold popV
      rw [hq, hd]
      simp only
      rw [hS] at HOK
      obtain ⟨hBg, A, n, c, L, hb, ho, hl, hrw, hok⟩ := h
      have hln := ho.len
      rw [hl.length, hS] at hln
      rw [hS] at hl hs
      rcases ho.row with ⟨_, h1, _⟩ | ⟨r, rfl, hBr, hr⟩
      · rw [h1] at hln; simp at hln
      · obtain ⟨m, rfl⟩ : ∃ m, n = m + 1 := ⟨S.length, by rw [← hln]; simp⟩
        have hlen := ho.len
        have hcap := hr.cap
        rw [hlen] at hcap
        have hcx := (hr.cells 0 (by omega)).2.2
        rw [hl.head, Nat.zero_mul, Nat.zero_add] at hcx
        have hgr : g ≠ r := fun e => hr.ne hb (by decide) e.symm
        have h0 : w.cell? ⟨g, 0, none⟩ = some (.slice (some ⟨r, 0, none⟩) (m + 1) c) := hb.cell 0
        have HPT : Hid (((L.set 0 (at_ L m)).set m default).take m = popT L) := by
          show _ = popT L
          unfold popT
          rw [hlen, Nat.add_sub_cancel, List.take_set_of_le (Nat.le_refl m)]
        have HSK := hide hl.2.1.pop
        have HLK := hide hl
        have HB := hide hb
        have HR := hide hr
        have hms : m ≤ 50000 := by simp at hln hs; omega
        have hST : S.length = m := by simpa using hln
        obtain rfl : rw = some r := hrw.symm
        have HQS := hide hS
        simp only [hS, List.length_cons, hST] at HL
        have hlm : m < L.length := by omega
        have hm1 : (m : Int) < (m : Int) + 1 := by omega
        have hm0 : (0 : Int) < (m : Int) + 1 := by omega
        rw [hS]
        clear hd hq hS hs hln hl hb hr ho hok hrw
        go_enter Try.func14, Try.ntmps14
        go_wp2_with (go_at_call 16; refine HN.out.mono ?_; rintro e wN ⟨rfl, hW2⟩; replace hW2 := hW2.symm; subst hW2)
        go_quiet ((go_at_call 18; exact quiet_same ((HL.out _).mono fun _ _ ⟨a, b⟩ => ⟨a, b.symm⟩)))
        rename_i nq
        clear HL hcx
        go_wp2_with fail
        refine wp_region_x (S := fun W => W.cell? ⟨g, 0, none⟩ = some (.slice (some ⟨r, 0, none⟩) (m + 1) c) ∧ Row W r c L) [12] (by kernel_rfl) (⟨HB.out.cell 0, HR.out⟩) ?_
        intro hHeld
        refine anyX_take [12, 11, 3, 2, 1, 0] (i := 0) (v := ?v1) rfl (by kernel_rfl) (by kernel_rfl) (by kernel_rfl) (by kernel_rfl) (by kernel_rfl) (by kernel_rfl) (by kernel_rfl) (fun _ _ _ h => h) (Or.inl ⟨by rfl, ?hy1⟩) (by assumption) ?rest1
        case hy1 => (intro w hSw; (try dsimp only at hSw); go_simp; try with_reducible rfl)
        try simp only [Act.put, List.getElem_toArray, List.getElem_cons_zero, List.getElem_cons_succ, List.setIfInBounds_toArray, List.set_cons_zero, List.set_cons_succ]
        refine anyX_take [12, 11, 3, 2, 1] (i := 1) (v := ?v2) rfl (by kernel_rfl) (by kernel_rfl) (by kernel_rfl) (by kernel_rfl) (by kernel_rfl) (by kernel_rfl) (by kernel_rfl) (fun _ _ _ h => h) (Or.inl ⟨by rfl, ?hy2⟩) (by assumption) ?rest2
        case hy2 => (intro w hSw; (try dsimp only at hSw); go_simp; try with_reducible rfl)
        try simp only [Act.put, List.getElem_toArray, List.getElem_cons_zero, List.getElem_cons_succ, List.setIfInBounds_toArray, List.set_cons_zero, List.set_cons_succ]
        refine anyX_take [12, 11, 3, 2] (i := 2) (v := ?v3) rfl (by kernel_rfl) (by kernel_rfl) (by kernel_rfl) (by kernel_rfl) (by kernel_rfl) (by kernel_rfl) (by kernel_rfl) (fun _ _ _ h => h) (Or.inl ⟨by rfl, ?hy3⟩) (by assumption) ?rest3
        case hy3 => (intro w hSw; (try dsimp only at hSw); go_simp; try with_reducible rfl)
        try simp only [Act.put, List.getElem_toArray, List.getElem_cons_zero, List.getElem_cons_succ, List.setIfInBounds_toArray, List.set_cons_zero, List.set_cons_succ]
        refine anyX_take [12, 11, 3] (i := 3) (v := ?v4) rfl (by kernel_rfl) (by kernel_rfl) (by kernel_rfl) (by kernel_rfl) (by kernel_rfl) (by kernel_rfl) (by kernel_rfl) (fun _ _ _ h => h) (Or.inl ⟨by rfl, ?hy4⟩) (by assumption) ?rest4
        case hy4 => (intro w hSw; (try dsimp only at hSw); go_simp; try with_reducible rfl)
        try simp only [Act.put, List.getElem_toArray, List.getElem_cons_zero, List.getElem_cons_succ, List.setIfInBounds_toArray, List.set_cons_zero, List.set_cons_succ]
        refine anyX_take [12, 11, 10, 9, 7, 6, 5, 4] (i := 4) (v := ?v5) rfl (by kernel_rfl) (by kernel_rfl) (by kernel_rfl) (by kernel_rfl) (by kernel_rfl) (by kernel_rfl) (by kernel_rfl) (fun _ _ _ h => h) (Or.inl ⟨by rfl, ?hy5⟩) (by assumption) ?rest5
        case hy5 => (intro w hSw; (try dsimp only at hSw); go_simp; try with_reducible rfl)
        try simp only [Act.put, List.getElem_toArray, List.getElem_cons_zero, List.getElem_cons_succ, List.setIfInBounds_toArray, List.set_cons_zero, List.set_cons_succ]
        refine anyX_take [12, 11, 10, 9, 7, 6, 5] (i := 5) (v := ?v6) rfl (by kernel_rfl) (by kernel_rfl) (by kernel_rfl) (by kernel_rfl) (by kernel_rfl) (by kernel_rfl) (by kernel_rfl) (fun _ _ _ h => h) (Or.inl ⟨by rfl, ?hy6⟩) (by assumption) ?rest6
        case hy6 => (intro w hSw; (try dsimp only at hSw); go_simp; try with_reducible rfl)
        try simp only [Act.put, List.getElem_toArray, List.getElem_cons_zero, List.getElem_cons_succ, List.setIfInBounds_toArray, List.set_cons_zero, List.set_cons_succ]
        refine anyX_take [12, 11, 10, 9, 7, 6] (i := 6) (v := ?v7) rfl (by kernel_rfl) (by kernel_rfl) (by kernel_rfl) (by kernel_rfl) (by kernel_rfl) (by kernel_rfl) (by kernel_rfl) (fun _ _ _ h => h) (Or.inl ⟨by rfl, ?hy7⟩) (by assumption) ?rest7
        case hy7 => (intro w hSw; (try dsimp only at hSw); go_simp; try with_reducible rfl)
        try simp only [Act.put, List.getElem_toArray, List.getElem_cons_zero, List.getElem_cons_succ, List.setIfInBounds_toArray, List.set_cons_zero, List.set_cons_succ]
        refine anyX_take [12, 11, 10, 9, 7] (i := 7) (v := ?v8) rfl (by kernel_rfl) (by kernel_rfl) (by kernel_rfl) (by kernel_rfl) (by kernel_rfl) (by kernel_rfl) (by kernel_rfl) (fun _ _ _ h => h) (Or.inl ⟨by rfl, ?hy8⟩) (by assumption) ?rest8
        case hy8 => (intro w hSw; (try dsimp only at hSw); go_simp; try with_reducible rfl)
        try simp only [Act.put, List.getElem_toArray, List.getElem_cons_zero, List.getElem_cons_succ, List.setIfInBounds_toArray, List.set_cons_zero, List.set_cons_succ]
        refine anyX_take [12, 11, 10, 9, 8] (i := 8) (v := ?v9) rfl (by kernel_rfl) (by kernel_rfl) (by kernel_rfl) (by kernel_rfl) (by kernel_rfl) (by kernel_rfl) (by kernel_rfl) (fun _ _ _ h => h) (Or.inl ⟨by rfl, ?hy9⟩) (by assumption) ?rest9
        case hy9 => (intro w hSw; (try dsimp only at hSw); go_simp; try with_reducible rfl)
        try simp only [Act.put, List.getElem_toArray, List.getElem_cons_zero, List.getElem_cons_succ, List.setIfInBounds_toArray, List.set_cons_zero, List.set_cons_succ]
        refine anyX_take [12, 11, 10, 9] (i := 9) (v := ?v10) rfl (by kernel_rfl) (by kernel_rfl) (by kernel_rfl) (by kernel_rfl) (by kernel_rfl) (by kernel_rfl) (by kernel_rfl) (fun _ _ _ h => h) (Or.inl ⟨by rfl, ?hy10⟩) (by assumption) ?rest10
        case hy10 => (intro w hSw; (try dsimp only at hSw); go_simp; try with_reducible rfl)
        try simp only [Act.put, List.getElem_toArray, List.getElem_cons_zero, List.getElem_cons_succ, List.setIfInBounds_toArray, List.set_cons_zero, List.set_cons_succ]
        refine anyX_take [12, 11, 10] (i := 10) (v := ?v11) rfl (by kernel_rfl) (by kernel_rfl) (by kernel_rfl) (by kernel_rfl) (by kernel_rfl) (by kernel_rfl) (by kernel_rfl) (fun _ _ _ h => h) (Or.inl ⟨by rfl, ?hy11⟩) (by assumption) ?rest11
        case hy11 => (intro w hSw; refine held_loadT isT (.tmp 44) ?_ r m c L ?_ hSw.2 (by omega) <;> rfl)
        try simp only [Act.put, List.getElem_toArray, List.getElem_cons_zero, List.getElem_cons_succ, List.setIfInBounds_toArray, List.set_cons_zero, List.set_cons_succ]
        refine anyX_take [12, 11] (i := 11) (v := ?v12) rfl (by kernel_rfl) (by kernel_rfl) (by kernel_rfl) (by kernel_rfl) (by kernel_rfl) (by kernel_rfl) (by kernel_rfl) (fun _ _ _ h => h) (Or.inl ⟨by rfl, ?hy12⟩) (by assumption) ?rest12
        case hy12 => (intro w hSw; (try dsimp only at hSw); go_simp; try with_reducible rfl)
        try simp only [Act.put, List.getElem_toArray, List.getElem_cons_zero, List.getElem_cons_succ, List.setIfInBounds_toArray, List.set_cons_zero, List.set_cons_succ]
        refine anyX_ready (rs := [12]) (by kernel_rfl) (by simp) ?_
        refine AllX.last rfl rfl (fun K hK => ?_)
        refine step_storeT isT rfl (.tmp 46) (.tmp 45) rfl r 0 c L (at_ L m) rfl rfl hHeld.2 (by omega) ?_
        intro w1 r1 f1
        refine hK.out _ _ ?_
        clear hK K
        refine anyX_done (by kernel_rfl) ?_ _
        have F1 : Frm (fun k => k = r) w w1 := f1.drewL.drewL
        have d0 := cell_frm F1 (HB.out.cell 0) hgr
        have hcut1 := fun W => tcut1 isT (some ⟨r, 0, none⟩) (m + 1) c m (Nat.le_succ m) W
        rw [if_neg (by omega : ¬ c = m), show (some (⟨r, 0, none⟩ : Addr)).map (·.add (m * 3)) = some ⟨r, m * 3, none⟩ by simp [addr_add], show m + 1 - m = 1 by omega] at hcut1
        have hcut0 := fun W => tcut0 isT (some ⟨r, 0, none⟩) (m + 1) c m (by omega) W
        have HF1 := hide F1
        have HR1 := hide r1
        clear F1 r1 f1 hHeld
        go_wp2_with (first
          | (refine wpl_clearT isT rfl (.tmp 52) rfl r m c (c - m) rfl _ HR1.out (by rw [List.length_set]; omega) ?_
             intro w2 r2 f2
             have HF2 := hide (HF1.out.trans f2 (fun _ _ h => h))
             have hB2 := HB.out.frm HF2.out hgr
             have e0 := hB2.cell 0
             have hz := hB2.frozen 0
             have HB2 := hide (hB2.set 0 (.slice (some ⟨r, 0, none⟩) m c))
             have hr3 := r2.short m (by rw [List.length_set, List.length_set]; omega)
             rw [HPT.out] at hr3
             have HR3 := hide (hr3.frm (Frm.setCell w2 ⟨g, 0, none⟩ (.slice (some ⟨r, 0, none⟩) m c) (fun k => k = g) rfl) (fun e => hgr e.symm))
             clear f2 r2 d0 hr3 hB2)
          | (go_at_call 24; refine (sink_any g r m c (popT L) _ (HB2.out.cell 0) HR3.out (by rw [popT_length]; omega) hgr (by omega) HSK.out).mono ?_; rintro e w4 ⟨rfl, L', r4, hp4, hh4, f4⟩))
        go_ret3
        have F2 : Frm (fun k => k = g ∨ k = r) w w4 := ((HF2.out.mono (T := fun k => k = g ∨ k = r) (fun _ _ h => .inr h)).trans (Frm.setCell _ ⟨g, 0, none⟩ (.slice (some ⟨r, 0, none⟩) m c) (fun k => k = g) rfl) (fun _ _ h => .inl h)).trans f4 (fun _ _ h => .inr h)
        exact ⟨rfl, ⟨hBg, some ⟨r, 0, none⟩, m, c, L', HB2.out.frm f4 hgr, r4.own hBr (by rw [hp4.length_eq, popT_length]; omega), HLK.out.pop hp4 hh4, rfl, HOK.out⟩, F2.mono (fun _ _ h => h.imp id (fun e => by rw [e]))⟩
end Go.Proofs.Ytjpmicjlbkdcbaa.hI
