/-
  chacha: the sixteen numbers as they are at first.
-/
import Derived.Test.YtjdffceeinflcaaDoorCh1
namespace Go.Proofs.YtjdffceeinflcaaDoor
set_option linter.unusedVariables false
open Go.RowKit

def first4 : List Nat := [1634760805, 857760878, 2036477234, 1797285236]
def quartersL : List Nat := [0, 4, 8, 12, 1, 5, 9, 13, 2, 6, 10, 14, 3, 7, 11, 15, 0, 5, 10, 15, 1, 6, 11, 12, 2, 7, 8, 13, 3, 4, 9, 14]
def cellsI (l : List Nat) : List Value := l.map fun n : Nat => .int .i64 (n : Int)
theorem cellsI_length (l : List Nat) : (cellsI l).length = l.length := by simp [cellsI]
theorem cellsI_at (l : List Nat) (j : Nat) (h : j < l.length) : (cellsI l)[j]? = some (.int .i64 ((l.getD j 0 : Nat) : Int)) := by
  rw [cellsI, List.getElem?_map, List.getD_eq_getElem?_getD, List.getElem?_eq_getElem h]; rfl
theorem cellsI_one (l : List Nat) : ∀ u ∈ cellsI l, u.oneCell' = true := by
  intro u hu
  obtain ⟨_, _, rfl⟩ := List.mem_map.1 hu
  rfl

/-- The tables of chacha. -/
structure Gc (w : World) : Prop where
  first : ∀ i, i < 4 → w.cell? ⟨0, i, none⟩ = some (.int .u32 (first4.getD i 0 : Nat))
  quarters : ∀ i, i < 32 → w.cell? ⟨1, i, none⟩ = some (.int .i64 (quartersL.getD i 0 : Nat))
theorem Gc.frm {S : Nat → Prop} {w w' : World} (h : Gc w) (f : Frm S w w') (h0 : ¬ S 0) (h1 : ¬ S 1) : Gc w' :=
  ⟨fun i hi => cell_frm f (h.first i hi) h0, fun i hi => cell_frm f (h.quarters i hi) h1⟩
theorem Gc.frm0 {w w' : World} (h : Gc w) (f : Frm (fun _ => False) w w') : Gc w' := h.frm f (fun h => h) (fun h => h)
theorem Gc.drewN {w : World} (h : Gc w) (n : Nat) : Gc (w.drewN n) := ⟨h.first, h.quarters⟩

/-- A whole array, by its cells. -/
theorem wpl_load_at {P : Program} {ty : TypeId} {n : Nat} (hA : Agg P ty n) {ops : Array Oper} {rest : List Oper} {op : Oper} {a : Act} {w : World} {Q : Exit → Act → World → Prop} (hgd : op.guard = none) (x : Operand) (ho : op.op = .load ty x)
    (g : Nat) (hx : a.eval x = .pointer (some ⟨g, 0, none⟩)) (xs : List Value) (hl : xs.length = n) (hc : ∀ j v, xs[j]? = some v → w.cell? ⟨g, j, none⟩ = some v)
    (h : wpList P ops Q rest (a.put op.dst (.agg xs.toArray)) w) : wpList P ops Q (op :: rest) a w := by
  refine wpList_plain hgd fun _ hK => ?_
  obtain ⟨⟨d, hu, hd⟩, hi⟩ := hA
  have h1 : (loadCells ⟨g, 0, none⟩ xs.length).run P w = .ok xs.toArray w :=
    run_loadCells_list (P := P) w ⟨g, 0, none⟩ xs (fun j v hv => by rw [addr_add, Nat.zero_add]; exact hc j v hv)
  have h2 : (loadVar ty ⟨g, 0, none⟩).run P w = .ok (.agg xs.toArray) w := by
    cases hq : P.info? ty with
    | none => simp [hq] at hi
    | some i =>
      have hs : i.size = n := by simpa [hq] using hi
      have hagg : (isAgg ty).run P w = .ok true w := by
        unfold isAgg
        rw [Sem.run_bind, run_underlying hu w]
        cases d <;> simp_all [isAggD]
      rw [hl] at h1
      simp [loadVar, Sem.run_bind, hagg, sizeOf, typeInfo, hq, hs, h1]
  unfold Oper.wp execOp
  simp only [ho, hx, Instr.loadAt, Instr.sureAddr, Sem.run_bind, Sem.run_pure, Result.andThen_ok, h2]
  exact hK _ _ h

theorem agg4 : Agg Tryd.prog 52 4 := Agg.of (by kernel_rfl) (by kernel_rfl)
theorem agg16w : Agg Tryd.prog 42 16 := Agg.of (by kernel_rfl) (by kernel_rfl)
theorem agg12 : Agg Tryd.prog 25 12 := Agg.of (by kernel_rfl) (by kernel_rfl)
theorem zero16w : (Tryd.prog.info? 42).map (fun i => i.zero) = some (some (.agg (cellsW (List.replicate 16 0)).toArray)) := by kernel_rfl
theorem under12 : Tryd.prog.underlying 25 = some (.array 12 5) := by kernel_rfl
theorem under4w : Tryd.prog.underlying 52 = some (.array 4 24) := by kernel_rfl
theorem under16w : Tryd.prog.underlying 42 = some (.array 16 24) := by kernel_rfl
theorem underU32 : Tryd.prog.underlying 24 = some (.int .u32) := by kernel_rfl
theorem sizeU32 : (Tryd.prog.info? 24).map (·.size) = some 1 := by kernel_rfl

theorem chaWords_get (all : List UInt8) (k : Nat) (h : k < 16) : (chaWords all)[k]? = some (lowN ((all.drop (4 * k)).take 4)) := by
  rw [chaWords, List.getElem?_map, List.getElem?_range h]; rfl
theorem chaAll_first (key : List UInt8) (ctr : Nat) (nonce : List UInt8) (k : Nat) (h : k < 4) : lowN (((chaAll key ctr nonce).drop (4 * k)).take 4) = first4.getD k 0 := by
  match k, h with
  | 0, _ => rfl
  | 1, _ => rfl
  | 2, _ => rfl
  | 3, _ => rfl
theorem drop_mid (x y z : List UInt8) (n k m : Nat) (hx : x.length = n) (hk : k + m ≤ y.length) : ((x ++ y ++ z).drop (n + k)).take m = (y.drop k).take m := by
  subst hx
  rw [List.append_assoc, ← List.drop_drop, List.drop_left, List.drop_append_of_le_length (by omega), List.take_append_of_le_length (by rw [List.length_drop]; omega)]
theorem chaAll_key (key : List UInt8) (ctr : Nat) (nonce : List UInt8) (k : Nat) (h : k < 8) (hk : key.length = 32) : ((chaAll key ctr nonce).drop (4 * (4 + k))).take 4 = (key.drop (4 * k)).take 4 := by
  have := drop_mid expandL key (le4 ctr ++ nonce) 16 (4 * k) 4 rfl (by omega)
  rw [chaAll, List.append_assoc, show 4 * (4 + k) = 16 + 4 * k by omega]
  exact this
theorem chaAll_ctr (key : List UInt8) (ctr : Nat) (nonce : List UInt8) (hk : key.length = 32) : ((chaAll key ctr nonce).drop (4 * 12)).take 4 = le4 ctr := by
  have := drop_mid (expandL ++ key) (le4 ctr) nonce 48 0 4 (by rw [List.length_append, hk]; rfl) (by rw [le4_length]; omega)
  rw [List.drop_zero, show (le4 ctr).take 4 = le4 ctr from List.take_of_length_le (by rw [le4_length]; omega)] at this
  exact this
theorem chaAll_nonce (key : List UInt8) (ctr : Nat) (nonce : List UInt8) (k : Nat) (h : k < 3) (hk : key.length = 32) (hn : nonce.length = 12) : ((chaAll key ctr nonce).drop (4 * (13 + k))).take 4 = (nonce.drop (4 * k)).take 4 := by
  have := drop_mid (expandL ++ key ++ le4 ctr) nonce [] 52 (4 * k) 4 (by rw [List.length_append, List.length_append, hk, le4_length]; rfl) (by omega)
  rw [List.append_nil] at this
  rw [chaAll, show 4 * (13 + k) = 52 + 4 * k by omega]
  exact this
theorem low_le4 (v : Nat) (h : v < 4294967296) : lowN (le4 v) = v := by
  have : le4 v = [UInt8.ofNat v, UInt8.ofNat (v / 256), UInt8.ofNat (v / 65536), UInt8.ofNat (v / 16777216)] := by simp [le4, be, List.range_succ]
  rw [this, low_eq]
  simp only [UInt8.toNat_ofNat']
  omega
theorem lowN_lt4 (l : List UInt8) (h : l.length ≤ 4) : lowN l < 4294967296 := by
  have h1 := num_lt l.reverse
  have h2 : 256 ^ l.reverse.length ≤ 256 ^ 4 := Nat.pow_le_pow_right (by omega) (by rw [List.length_reverse]; exact h)
  show num l.reverse < _
  omega
theorem chaWords_ws (all : List UInt8) : Ws (chaWords all) := by
  intro x hx
  obtain ⟨i, _, rfl⟩ := List.mem_map.1 hx
  exact lowN_lt4 _ (by rw [List.length_take]; omega)

structure StartInv (w : World) (gk gn g6 g7 : Nat) (key nonce : List UInt8) (l : List Nat) (wr : World) : Prop where
  key : Blk wr gk 23 (cellsB key).toArray
  nonce : Blk wr gn 25 (cellsB nonce).toArray
  res : Blk wr g6 42 (cellsW (List.replicate 16 0)).toArray
  blk : Blk wr g7 42 (cellsW l).toArray
  below : Below w.heap.size w wr
theorem StartInv.set {w : World} {gk gn g6 g7 : Nat} {key nonce : List UInt8} {l : List Nat} {wr : World} (h : StartInv w gk gn g6 g7 key nonce l wr) (h1 : gk ≠ g7) (h2 : gn ≠ g7) (h3 : g6 ≠ g7) (h4 : w.heap.size ≤ g7) (q k x : Nat) :
    StartInv w gk gn g6 g7 key nonce (l.set k x) ((wr.drewN q).setCell ⟨g7, k, none⟩ (.int .u32 (x : Int))) := by
  have hb := Blk.set (w := wr.drewN q) h.blk k (.int .u32 (x : Int))
  rw [List.setIfInBounds_toArray, cellsW_set] at hb
  have fr : Frm (fun i => i = g7) wr ((wr.drewN q).setCell ⟨g7, k, none⟩ (.int .u32 (x : Int))) := ((Frm.refl _ _).drewN q).trans (Frm.setCell _ _ _ (fun i => i = g7) rfl) (fun _ _ h => h)
  exact ⟨h.key.frm fr h1, h.nonce.frm fr h2, h.res.frm fr h3, hb, below_frm h.below fr h.below.size (by intro i hi; omega)⟩
theorem StartInv.room {w : World} {gk gn g6 g7 : Nat} {key nonce : List UInt8} {l : List Nat} {wr : World} (h : StartInv w gk gn g6 g7 key nonce l wr) (hl : l.length = 16) (k : Nat) (hk : k < 16) :
    ∃ v, ∀ q, (wr.drewN q).cell? ⟨g7, k, none⟩ = some v ∧ (wr.drewN q).frozen? ⟨g7, k, none⟩ = false := by
  refine ⟨(cellsW l)[k]'(by rw [cellsW_length]; omega), fun q => ⟨?_, h.blk.frozen k⟩⟩
  have := h.blk.cell k
  rw [List.getElem?_toArray, List.getElem?_eq_getElem (by rw [cellsW_length]; omega)] at this
  exact this

set_option maxHeartbeats 4000000 in
theorem start_any (key nonce : List UInt8) (ctr : Nat) (w : World) (hG : Gc w) (hk : key.length = 32) (hn : nonce.length = 12) (hc : ctr < 4294967296) :
    Calls Tryd.prog 17 #[.agg (cellsB key).toArray, .int .u32 (ctr : Int), .agg (cellsB nonce).toArray] w fun e w' => e = .returned (.agg (cellsW (chaWords (chaAll key ctr nonce))).toArray) ∧ Below w.heap.size w w' := by
  have hF0 : Frm (fun _ => False) w ((w.alloc (.cells (cellsB key).toArray 23)).alloc (.cells (cellsB nonce).toArray 25)) := Frm.two _ _ _
  have hBK := (Blk.new w 23 (cellsB key).toArray).frm (Frm.alloc (w.alloc (.cells (cellsB key).toArray 23)) (.cells (cellsB nonce).toArray 25) (fun _ => False)) (fun h => h)
  have hBN := Blk.new (w.alloc (.cells (cellsB key).toArray 23)) 25 (cellsB nonce).toArray
  rw [show (w.alloc (.cells (cellsB key).toArray 23)).heap.size = w.heap.size + 1 by simp] at hBN
  obtain ⟨S, hS⟩ : ∃ S, S = chaWords (chaAll key ctr nonce) := ⟨_, rfl⟩
  have HSL : Hid (S.length = 16) := by rw [hS]; exact chaWords_length _
  have HF : Hid (∀ k, k < 4 → S[k]? = some (first4.getD k 0)) := by rw [hS]; intro k h; rw [chaWords_get _ _ (by omega), chaAll_first _ _ _ _ h]
  have HK : Hid (∀ k, k < 8 → S[4 + k]? = some (lowN [key.getD (4 * k) 0, key.getD (4 * k + 1) 0, key.getD (4 * k + 2) 0, key.getD (4 * k + 3) 0])) := by rw [hS]; intro k h; rw [chaWords_get _ _ (by omega), chaAll_key _ _ _ _ h hk, drop_take4 _ _ (by omega)]
  have HC : Hid (S[12]? = some ctr) := by rw [hS]; show _ = _; rw [chaWords_get _ _ (by omega), chaAll_ctr _ _ _ hk, low_le4 _ hc]
  have HN : Hid (∀ k, k < 3 → S[13 + k]? = some (lowN [nonce.getD (4 * k) 0, nonce.getD (4 * k + 1) 0, nonce.getD (4 * k + 2) 0, nonce.getD (4 * k + 3) 0])) := by rw [hS]; intro k h; rw [chaWords_get _ _ (by omega), chaAll_nonce _ _ _ _ h hk hn, drop_take4 _ _ (by omega)]
  rw [← hS]
  have HKL := hide hk
  have HNL := hide hn
  obtain ⟨fl, hfl⟩ : ∃ fl, fl = first4 := ⟨_, rfl⟩
  have HFL : Hid ((cellsW fl).length = 4) := by rw [hfl]; rfl
  have hix : ∀ (k : Nat), k < 4 → ∀ w, Sem.run Tryd.prog (Instr.index 52 (.agg (cellsW fl).toArray) (.int .i64 (k : Int))) w = .ok (.int .u32 (fl.getD k 0 : Nat)) w := by
    intro k hk w
    exact run_index_agg under4w underU32 sizeU32 (cellsW fl) k _ hk (cellsW_at fl k (by rw [hfl]; exact hk)) w
  have HIX := hide hix
  have hcells : ∀ w', Frm (fun _ => False) w w' → ∀ j v, (cellsW fl)[j]? = some v → w'.cell? ⟨0, j, none⟩ = some v := by
    intro w' f j v hv
    have hj : j < 4 := by have := (List.getElem?_eq_some_iff.1 hv).1; rw [HFL.out] at this; exact this
    rw [cellsW_at fl j (by rw [hfl]; exact hj), hfl] at hv
    rw [← hv]
    exact (hG.frm0 f).first j hj
  have HCE := hide hcells
  rw [← hfl] at HF
  clear hS hk hn hc hfl hix hcells hG
  go_enter Tryd.func17, Tryd.ntmps17
  go_wp2_with (first
    | ((with_reducible refine wpl_alloca (op := ⟨some 6, _, _, _, _, _⟩) rfl _ rfl _ zero16w ?_); intro g6 w1 hB1 hs1 hF1; have hF01 := hF0.trans hF1 (fun _ _ h => h))
    | ((with_reducible refine wpl_alloca (op := ⟨some 7, _, _, _, _, _⟩) rfl _ rfl _ zero16w ?_); intro g7 w2 hB2 hs2 hF2; have hF02 := hF01.trans hF2 (fun _ _ h => h))
    | (with_reducible refine wpl_load_at (op := ⟨some 12, _, _, _, _, _⟩) agg4 rfl _ rfl 0 rfl (cellsW fl) HFL.out (HCE.out w2 hF02) ?_))
  have hsz := hF0.size
  have hk1 := hBK.lt
  have hn1 := hBN.lt
  have hne1 : w.heap.size ≠ g7 := by have := hF1.size; omega
  have hne2 : w.heap.size + 1 ≠ g7 := by have := hF1.size; omega
  have hne3 : g6 ≠ g7 := by have := hB1.lt; omega
  have hge : w.heap.size ≤ g7 := by have := hF1.size; omega
  have hge6 : w.heap.size ≤ g6 := by omega
  have HZ : Hid ((List.replicate 16 0).length = 16) := rfl
  have hst : StartInv w w.heap.size (w.heap.size + 1) g6 g7 key nonce (mix S (List.replicate 16 0) 0) w2 := by
    have f12 := hF1.trans hF2 (fun _ _ h => h)
    exact ⟨hBK.frm f12 (fun h => h), hBN.frm f12 (fun h => h), hB1.frm hF2 (fun h => h), by rw [mix_zero]; exact hB2, hF02.below (Nat.le_refl _) (fun _ h => h.elim)⟩
  have HML : Hid (∀ k, (mix S (List.replicate 16 0) k).length = 16) := fun k => by rw [mix_length _ _ _ (by rw [HSL.out]; rfl)]; rfl
  have HMS : Hid (∀ k x, k < 16 → S[k]? = some x → (mix S (List.replicate 16 0) k).set k x = mix S (List.replicate 16 0) (k + 1)) := fun k x hk hx => mix_set _ _ _ _ (by rw [HSL.out]; rfl) (by rw [List.length_replicate]; exact hk) hx
  clear hB1 hB2 hF1 hF2 hF01 hF02 hF0 hBK hBN hs1 hs2 HCE hk1 hn1 hsz
  obtain ⟨gk, hgk⟩ : ∃ gk, gk = w.heap.size := ⟨_, rfl⟩
  obtain ⟨gn, hgn⟩ : ∃ gn, gn = w.heap.size + 1 := ⟨_, rfl⟩
  rw [← hgn] at hst hne2 ⊢
  rw [← hgk] at hst hne1 ⊢
  have HST := hide hst
  clear hst hgn
  have HGK := hide hgk
  clear hgk
  go_loopw [13] (fun i wr => ∃ k : Nat, k ≤ 4 ∧ i = .int .i64 k ∧ StartInv w gk gn g6 g7 key nonce (mix S (List.replicate 16 0) k) wr) (fun i _ => 4 - (intOf i).toNat)
  case atStart => exact ⟨0, by omega, rfl, HST.out⟩
  case round =>
    clear HST
    obtain ⟨k, hk, rfl, hi⟩ := hrel
    by_cases hlt : k < 4
    · have hidx := HIX.out k hlt
      have hset := HMS.out k _ (by omega) (HF.out k hlt)
      obtain ⟨x, hx⟩ : ∃ x, x = fl.getD k 0 := ⟨_, rfl⟩
      rw [← hx] at hidx hset
      obtain ⟨vo, hvo⟩ := hi.room (HML.out k) k (by omega)
      have q1 : wr.cell? ⟨g7, k, none⟩ = some vo := (hvo 0).1
      have q2 : wr.frozen? ⟨g7, k, none⟩ = false := (hvo 0).2
      have FIN : Hid (StartInv w gk gn g6 g7 key nonce (mix S (List.replicate 16 0) (k + 1)) (wr.setCell ⟨g7, k, none⟩ (.int .u32 (x : Int)))) := by
        have := hi.set hne1 hne2 hne3 hge 0 k x
        rw [hset] at this
        exact this
      clear hset hvo hx hi
      go_wp2_with fail
      go_roundw
      case rel => first | exact ⟨k + 1, by omega, by go_num, FIN.out⟩ | ((repeat apply Exists.intro); exact ⟨⟨k + 1, by omega, by go_num, FIN.out⟩, rfl⟩)
      case measure => simp [intOf]; omega
    · obtain rfl : k = 4 := by omega
      have HST := hide hi
      clear hi
      go_wp2_with fail
      go_loopw [21] (fun i wr => ∃ k : Nat, k ≤ 8 ∧ i = .int .i64 k ∧ StartInv w gk gn g6 g7 key nonce (mix S (List.replicate 16 0) (4 + k)) wr) (fun i _ => 8 - (intOf i).toNat)
      case atStart => exact ⟨0, by omega, rfl, HST.out⟩
      case round =>
        clear HST
        obtain ⟨k, hk, rfl, hi⟩ := hrel
        by_cases hlt : k < 8
        · have hc : ∀ j, 4 * k + j < 32 → wr.cell? ⟨gk, 4 * k + j, none⟩ = some (.int .u8 ((key.getD (4 * k + j) 0).toNat : Int)) := by
            intro j hj
            rw [hi.key.cell, List.getElem?_toArray]
            exact getD_byte _ _ (by rw [HKL.out]; exact hj)
          have h0 := hc 0 (by omega)
          have h1 := hc 1 (by omega)
          have h2 := hc 2 (by omega)
          have h3 := hc 3 (by omega)
          have hset := HMS.out (4 + k) _ (by omega) (HK.out k hlt)
          simp only [Nat.add_zero] at h0
          clear hc
          generalize key.getD (4 * k) 0 = b0 at *
          generalize key.getD (4 * k + 1) 0 = b1 at *
          generalize key.getD (4 * k + 2) 0 = b2 at *
          generalize key.getD (4 * k + 3) 0 = b3 at *
          obtain ⟨vo, hvo⟩ := hi.room (HML.out (4 + k)) (4 + k) (by omega)
          have FIN : Hid (∀ q, StartInv w gk gn g6 g7 key nonce (mix S (List.replicate 16 0) (4 + (k + 1))) ((wr.drewN q).setCell ⟨g7, 4 + k, none⟩ (.int .u32 (lowN [b0, b1, b2, b3] : Nat)))) := fun q => by
            have := hi.set hne1 hne2 hne3 hge q (4 + k) (lowN [b0, b1, b2, b3])
            rw [hset] at this
            exact this
          have VO := hide hvo
          have hsl : ∀ w, Sem.run Tryd.prog (Instr.sliceAt 23 (.pointer (some ⟨gk, 0, none⟩)) (some (.int .i64 (4 * (k : Int)))) none none) w = .ok (.slice (some ⟨gk, 4 * k, none⟩) (32 - 4 * k) (32 - 4 * k)) w := fun w => by
            have := run_slice_arr (P := Tryd.prog) (t := 23) (e := 5) (N := 32) underK32 size8 gk 0 .i64 (4 * k) (by omega) w
            simpa using this
          have H0 := hide h0
          have H1 := hide h1
          have H2 := hide h2
          have H3 := hide h3
          clear hset hvo hi h0 h1 h2 h3
          go_wp2_with fail
          refine (number_any gk (4 * k) (32 - 4 * k) (32 - 4 * k) b0 b1 b2 b3 wr (by omega) (by omega) H0.out H1.out H2.out H3.out).mono ?_
          rintro e w4 ⟨rfl, q, rfl⟩
          obtain ⟨q1, q2⟩ := VO.out q
          have FQ := hide (FIN.out q)
          generalize lowN [b0, b1, b2, b3] = nn at *
          go_wp2_with fail
          go_roundw
          case rel => first | exact ⟨k + 1, by omega, by go_num, FQ.out⟩ | ((repeat apply Exists.intro); exact ⟨⟨k + 1, by omega, by go_num, FQ.out⟩, rfl⟩)
          case measure => simp [intOf]; omega
        · obtain rfl : k = 8 := by omega
          obtain ⟨vo, hvo⟩ := hi.room (HML.out 12) 12 (by omega)
          have q1 : wr.cell? ⟨g7, 12, none⟩ = some vo := (hvo 0).1
          have q2 : wr.frozen? ⟨g7, 12, none⟩ = false := (hvo 0).2
          have HST : Hid (StartInv w gk gn g6 g7 key nonce (mix S (List.replicate 16 0) (13 + 0)) (wr.setCell ⟨g7, 12, none⟩ (.int .u32 (ctr : Int)))) := by
            have := hi.set hne1 hne2 hne3 hge 0 12 ctr
            rw [HMS.out 12 ctr (by omega) HC.out] at this
            exact this
          clear hi hvo
          go_wp2_with fail
          go_loopw [34] (fun i wr => ∃ k : Nat, k ≤ 3 ∧ i = .int .i64 k ∧ StartInv w gk gn g6 g7 key nonce (mix S (List.replicate 16 0) (13 + k)) wr) (fun i _ => 3 - (intOf i).toNat)
          case atStart => exact ⟨0, by omega, rfl, HST.out⟩
          case round =>
            clear HST q1 q2
            obtain ⟨k, hk, rfl, hi⟩ := hrel
            by_cases hlt : k < 3
            · have hc : ∀ j, 4 * k + j < 12 → wr.cell? ⟨gn, 4 * k + j, none⟩ = some (.int .u8 ((nonce.getD (4 * k + j) 0).toNat : Int)) := by
                intro j hj
                rw [hi.nonce.cell, List.getElem?_toArray]
                exact getD_byte _ _ (by rw [HNL.out]; exact hj)
              have h0 := hc 0 (by omega)
              have h1 := hc 1 (by omega)
              have h2 := hc 2 (by omega)
              have h3 := hc 3 (by omega)
              have hset := HMS.out (13 + k) _ (by omega) (HN.out k hlt)
              simp only [Nat.add_zero] at h0
              clear hc
              generalize nonce.getD (4 * k) 0 = b0 at *
              generalize nonce.getD (4 * k + 1) 0 = b1 at *
              generalize nonce.getD (4 * k + 2) 0 = b2 at *
              generalize nonce.getD (4 * k + 3) 0 = b3 at *
              obtain ⟨vo, hvo⟩ := hi.room (HML.out (13 + k)) (13 + k) (by omega)
              have FIN : Hid (∀ q, StartInv w gk gn g6 g7 key nonce (mix S (List.replicate 16 0) (13 + (k + 1))) ((wr.drewN q).setCell ⟨g7, 13 + k, none⟩ (.int .u32 (lowN [b0, b1, b2, b3] : Nat)))) := fun q => by
                have := hi.set hne1 hne2 hne3 hge q (13 + k) (lowN [b0, b1, b2, b3])
                rw [hset] at this
                exact this
              have VO := hide hvo
              have hsl : ∀ w, Sem.run Tryd.prog (Instr.sliceAt 25 (.pointer (some ⟨gn, 0, none⟩)) (some (.int .i64 (4 * (k : Int)))) none none) w = .ok (.slice (some ⟨gn, 4 * k, none⟩) (12 - 4 * k) (12 - 4 * k)) w := fun w => by
                have := run_slice_arr (P := Tryd.prog) (t := 25) (e := 5) (N := 12) under12 size8 gn 0 .i64 (4 * k) (by omega) w
                simpa using this
              have H0 := hide h0
              have H1 := hide h1
              have H2 := hide h2
              have H3 := hide h3
              clear hset hvo hi h0 h1 h2 h3
              go_wp2_with fail
              refine (number_any gn (4 * k) (12 - 4 * k) (12 - 4 * k) b0 b1 b2 b3 wr (by omega) (by omega) H0.out H1.out H2.out H3.out).mono ?_
              rintro e w4 ⟨rfl, q, rfl⟩
              obtain ⟨q1, q2⟩ := VO.out q
              have FQ := hide (FIN.out q)
              generalize lowN [b0, b1, b2, b3] = nn at *
              go_wp2_with fail
              go_roundw
              case rel => first | exact ⟨k + 1, by omega, by go_num, FQ.out⟩ | ((repeat apply Exists.intro); exact ⟨⟨k + 1, by omega, by go_num, FQ.out⟩, rfl⟩)
              case measure => simp [intOf]; omega
            · obtain rfl : k = 3 := by omega
              have hb := hi.blk
              rw [mix_all _ _ _ (by rw [HSL.out]; rfl) (by rw [List.length_replicate]; omega)] at hb
              have HL : Hid ((cellsW S).length = 16) := by show _ = _; rw [cellsW_length, HSL.out]
              have HX : Hid (((cellsW S).drop 0).take 16 = cellsW S) := by show _ = _; rw [List.drop_zero, List.take_of_length_le (by rw [HL.out]; exact Nat.le_refl _)]
              have hres := hi.res
              have hbel := hi.below
              clear hi
              go_wp2_with (first
                | (with_reducible refine wpl_loada (op := ⟨some 45, _, _, _, _, _⟩) agg16w rfl _ rfl g7 0 rfl _ _ _ hb HX.out (by rw [HL.out]; exact Nat.le_refl _) ?_)
                | ((with_reducible refine wpl_storea agg16w rfl (.tmp 6) (.tmp 45) rfl g6 (cellsW S) rfl rfl _ _ hres HL.out (by simp [cellsW]) (cellsW_one _) ?_); intro w4 hB4 hF4))
              refine ret_agg agg16w rfl rfl g6 _ _ rfl hB4 HL.out ⟨rfl, below_frm hbel hF4 hbel.size (by intro i hi; omega)⟩
end Go.Proofs.YtjdffceeinflcaaDoor
