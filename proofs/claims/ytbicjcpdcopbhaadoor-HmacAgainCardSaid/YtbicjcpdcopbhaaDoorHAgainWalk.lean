/-
  HmacAgain, walked.
-/
import Derived.Test.YtbicjcpdcopbhaaDoorAg1
namespace Go.Proofs.YtbicjcpdcopbhaaDoor
set_option linter.unusedVariables false
set_option linter.unusedSimpArgs false
open Go.RowKit

/-- What the parts are while they are turned, one behind the other, byte by byte. -/
structure Qt (f g : List UInt8 → List UInt8) (ps qs : List (List UInt8)) (i n : Nat) : Prop where
  len : qs.length = ps.length
  get : ∀ j, j < ps.length → qs.getD j [] = if j < i then f (ps.getD j []) else if j = i then mix (f (ps.getD j [])) (g (ps.getD j [])) n else g (ps.getD j [])
theorem getD_set (l : List (List UInt8)) (i j : Nat) (x : List UInt8) (hi : i < l.length) : (l.set i x).getD j [] = if j = i then x else l.getD j [] := by
  rw [List.getD_eq_getElem?_getD, List.getD_eq_getElem?_getD, List.getElem?_set]
  by_cases h : i = j
  · subst h; simp [hi]
  · rw [if_neg h, if_neg (fun e => h e.symm)]
theorem Qt.set {f g : List UInt8 → List UInt8} {ps qs : List (List UInt8)} {i n : Nat} (h : Qt f g ps qs i n) (hi : i < ps.length) (hfg : (f (ps.getD i [])).length = (g (ps.getD i [])).length) (hn : n < (g (ps.getD i [])).length) (u : UInt8) (hu : (f (ps.getD i []))[n]? = some u) :
    Qt f g ps (qs.set i ((qs.getD i []).set n u)) i (n + 1) := by
  refine ⟨by rw [List.length_set, h.len], fun j hj => ?_⟩
  rw [getD_set _ _ _ _ (by rw [h.len]; exact hi)]
  by_cases hji : j = i
  · subst hji
    rw [if_pos rfl, h.get j hj, if_neg (by omega), if_pos rfl, if_neg (by omega), if_pos rfl, mix_set _ _ _ _ hfg hn hu]
  · rw [if_neg hji, h.get j hj]
    by_cases hlt : j < i
    · rw [if_pos hlt, if_pos hlt]
    · rw [if_neg hlt, if_neg hlt, if_neg hji, if_neg hji]
theorem Qt.next {f g : List UInt8 → List UInt8} {ps qs : List (List UInt8)} {i n : Nat} (h : Qt f g ps qs i n) (hfg : (f (ps.getD i [])).length = (g (ps.getD i [])).length) (hn : (g (ps.getD i [])).length ≤ n) : Qt f g ps qs (i + 1) 0 := by
  refine ⟨h.len, fun j hj => ?_⟩
  rw [h.get j hj, mix_zero]
  by_cases hlt : j < i
  · rw [if_pos hlt, if_pos (by omega)]
  · by_cases hji : j = i
    · subst hji
      rw [if_neg (by omega), if_pos rfl, if_pos (by omega), mix_all _ _ _ hfg hn]
    · rw [if_neg hlt, if_neg hji, if_neg (by omega)]
      split <;> rfl
theorem Qt.start (f g : List UInt8 → List UInt8) (ps : List (List UInt8)) : Qt f g ps (ps.map g) 0 0 := by
  refine ⟨by simp, fun j hj => ?_⟩
  rw [if_neg (by omega), mix_zero]
  have : (ps.map g).getD j [] = g (ps.getD j []) := by
    rw [List.getD_eq_getElem?_getD, List.getD_eq_getElem?_getD, List.getElem?_map, List.getElem?_eq_getElem hj]
    rfl
  rw [this]
  split <;> rfl
theorem Qt.stop {f g : List UInt8 → List UInt8} {ps qs : List (List UInt8)} {i n : Nat} (h : Qt f g ps qs i n) (hi : ps.length ≤ i) : qs = ps.map f := by
  apply List.ext_getElem?
  intro j
  by_cases hj : j < ps.length
  · have h1 := h.get j hj
    rw [if_pos (by omega)] at h1
    rw [List.getElem?_map, List.getElem?_eq_getElem hj, List.getElem?_eq_getElem (by rw [h.len]; exact hj)]
    rw [List.getD_eq_getElem?_getD, List.getD_eq_getElem?_getD, List.getElem?_eq_getElem hj, List.getElem?_eq_getElem (by rw [h.len]; exact hj)] at h1
    simpa using h1
  · rw [List.getElem?_eq_none (by rw [h.len]; omega), List.getElem?_eq_none (by simp; omega)]
theorem xor255 (p : List UInt8) (n : Nat) (h : n < p.length) : (xorL 255 p)[n]? = some (p.getD n 0 ^^^ 255) := by
  rw [xorL, List.getElem?_map, List.getD_eq_getElem?_getD, List.getElem?_eq_getElem h]; rfl
theorem xor255' (p : List UInt8) (n : Nat) (h : n < p.length) : p[n]? = some ((xorL 255 p).getD n 0 ^^^ 255) := by
  rw [List.getD_eq_getElem?_getD, xor255 p n h, List.getElem?_eq_getElem h, List.getD_eq_getElem?_getD, List.getElem?_eq_getElem h]
  show some p[n] = some (p[n] ^^^ 255 ^^^ 255)
  rw [UInt8.xor_assoc, UInt8.xor_self, UInt8.xor_zero]
theorem mix_getD (new old : List UInt8) (n : Nat) (h : new.length = old.length) (hn : n < old.length) : (mix new old n).getD n 0 = old.getD n 0 := by
  rw [List.getD_eq_getElem?_getD, List.getD_eq_getElem?_getD, mix_at _ _ _ h hn]
theorem OwnAll.at2 {w : World} {B : Nat} {vs : List Value} {ls : List (List UInt8)} (h : OwnAll w B vs ls) : ∀ k, k < ls.length → ∃ v, vs[k]? = some v ∧ w.ownsRow B 5 1 v (ls.getD k []).length (cellsB (ls.getD k [])) := by
  induction h with
  | nil => intro k hk; simp at hk
  | cons ho _ ih =>
    intro k hk
    rcases k with _ | k
    · exact ⟨_, rfl, ho⟩
    · obtain ⟨v, h1, h2⟩ := ih k (by simpa using hk)
      exact ⟨v, by simpa using h1, by simpa using h2⟩
theorem partsM_each (L : Nat → List UInt8) (k j : Nat) : ((partsL L k).getD j []).length ≤ 200 := by
  rw [List.getD_eq_getElem?_getD]
  rcases h : (partsL L k)[j]? with _ | p
  · simp
  · have := List.mem_of_getElem? h
    obtain ⟨i, _, rfl⟩ := List.mem_map.1 this
    simp; omega
theorem map_flat_len (f : List UInt8 → List UInt8) (hf : ∀ p, (f p).length = p.length) (ps : List (List UInt8)) : (ps.map f).flatten.length = ps.flatten.length := by
  induction ps with
  | nil => rfl
  | cons p l ih => simp only [List.map_cons, List.flatten_cons, List.length_append, hf, ih]

set_option maxHeartbeats 16000000 in
set_option maxRecDepth 100000 in
theorem hagain_walk (key : List UInt8) (s1 : List UInt8) (a0 : Option Addr) (len0 cap0 : Nat) (L : Nat → List UInt8) (w : World) (hG : Gl w) (hg0 : 2 ≤ w.heap.size) (hkey : key.length = 32) (hb1 : s1.length ≤ 9223372036854775807) (h0 : Rows2 w a0 len0 L) (hl0 : len0 ≤ cap0) (hm0 : cap0 ≤ 9223372036854775807) :
    Calls Tryd.prog 13 #[.agg (cellsB key).toArray, .string ⟨s1.toArray⟩, .slice a0 len0 cap0] w fun e w' => e = .returned (.bool true) ∧ Below w.heap.size w w' := by
  obtain ⟨n1, hn1⟩ : ∃ n, n = s1.length := ⟨_, rfl⟩
  have z1a : (⟨s1.toArray⟩ : ByteArray).size = n1 := by rw [txt_size, hn1]
  have z1b : s1.toArray.size = n1 := by rw [hn1]; simp
  have z1c : s1.length = n1 := hn1.symm
  obtain ⟨t1, HT1, tl1, tr1, te1⟩ := nat_min n1 100
  have hs1 := fun w => str_to s1 t1 (by rw [← hn1]; exact tl1) w
  have HY1 : Hid ((s1.take t1).length = t1) := by show _ = _; rw [List.length_take, ← hn1]; exact Nat.min_eq_left tl1
  obtain ⟨y1, hy1⟩ : ∃ y, y = s1.take t1 := ⟨_, rfl⟩
  rw [← hy1] at hs1 HY1
  have hyl1 : y1.length ≤ 100 := by rw [HY1.out]; exact tr1
  have hst1 : n1 ≤ 9223372036854775807 := by rw [hn1]; exact hb1
  clear hn1 hy1 te1
  have HKC : Hid ((cellsB key).length = 32) := by show _ = _; rw [cellsB_length]; exact hkey
  have HKX : Hid (((cellsB key).drop 0).take 32 = cellsB key) := by show _ = _; rw [List.drop_zero, List.take_of_length_le (by rw [HKC.out]; exact Nat.le_refl _)]
  have HKL : Hid (0 + 32 ≤ (cellsB key).length) := by show _ ≤ _; rw [HKC.out]; exact Nat.le_refl _
  have hR0 := Run.boxed hG hg0 (.cells (cellsB key).toArray 43)
  have hK0 := Blk.new w 43 (cellsB key).toArray
  have H0 := hide h0
  have hslK := slK
  clear h0
  go_enter Tryd.func13, Tryd.ntmps13
  go_wp2_with fail
  refine (hshown_from w _ hR0).mono ?_
  rintro e w1 ⟨rfl, hF1, hR1⟩
  have hK1 := hK0.frm hF1 (fun h => h)
  have hw1 : w.heap.size ≤ w1.heap.size := hR1.size
  have HJ := hide (joined2_any a0 len0 cap0 L w1 (H0.out.below hR1.below) hl0 hm0)
  clear hR0 hK0 hF1
  go_wp2_with (refine wpl_min rfl (.tmp 21) (.const (.int .i64 100)) _ _ rfl _ (n1 : Int) 100 (t1 : Int) rfl rfl HT1.out ?_)
  refine HJ.out.mono ?_
  rintro e w2 ⟨k, A, c, TA, tc, vs, hk5, rfl, J2⟩
  have hR2 := hR1.frm J2.frm (fun _ h => h.elim)
  have hK2 := hK1.frm J2.frm (fun h => h)
  have HPL := hide (partsL_length L k)
  have HPF : Hid ((partsL L k).flatten.length ≤ 1000) := by show _ ≤ _; have := partsL_flat L k; omega
  have HPE := hide (partsM_each L k)
  have HDIS := hide J2.dis
  have o2 := J2.own
  have p2 := J2.parts
  have t2 := J2.texts
  clear HJ hR1 hK1 J2
  obtain ⟨ps, hps⟩ : ∃ ps, ps = partsL L k := ⟨_, rfl⟩
  rw [← hps] at HPL HPF HPE p2 t2
  clear hps
  generalize (⟨((partsL L k).flatten).toArray⟩ : ByteArray) = Ba at *
  have HMA0 := hide (fun W (hk : Blk W w.heap.size 43 (cellsB key).toArray) (ho : W.ownsRow w1.heap.size 24 1 (.slice A k c) k vs) (hp : OwnAll W w1.heap.size vs ps) (hR : Run w W) => mac_now w W (some ⟨w.heap.size, 0, none⟩) 32 32 key A k c vs ps ps.flatten (by have := hk.rds; rwa [HKC.out] at this) (Nat.le_refl _) (by omega) (Seg.of_own ho).rds hp.all2 rfl hR (by have := HPF.out; omega) (by rw [HPL.out]; omega))
  have HDA0 := hide (fun W (ho : W.ownsRow w1.heap.size 24 1 (.slice A k c) k vs) (hp : OwnAll W w1.heap.size vs ps) (hR : Run w W) => derive_now w W key y1 hkey A k c vs ps (Seg.of_own ho).rds hp.all2 hR (by omega) (fun j => by have := HPE.out j; omega) (by have := HPF.out; omega) (by rw [HPL.out]; omega))
  have HSA0 := hide (fun W (ho : W.ownsRow w1.heap.size 24 1 (.slice A k c) k vs) (hp : OwnAll W w1.heap.size vs ps) (hR : Run w W) => short_now w W key hkey A k c vs ps ps.flatten (Seg.of_own ho).rds hp.all2 rfl hR (by have := HPF.out; omega) (by rw [HPL.out]; omega))
  have HML := hide (macL_length key ps.flatten)
  have HDL := hide (deriveL_length key y1 ps)
  have HSL : Hid (((macL key ps.flatten).take 16).length = 16) := by show _ = _; rw [List.length_take, macL_length]; rfl
  obtain ⟨mc, hmc⟩ : ∃ mc, mc = macL key ps.flatten := ⟨_, rfl⟩
  obtain ⟨dk, hdk⟩ : ∃ dk, dk = deriveL key y1 ps := ⟨_, rfl⟩
  obtain ⟨sc, hsc⟩ : ∃ sc, sc = (macL key ps.flatten).take 16 := ⟨_, rfl⟩
  rw [← hsc] at HSL HSA0
  rw [← hmc] at HML HMA0
  rw [← hdk] at HDL HDA0
  have HMC : Hid ((cellsB mc).length = 32) := by show _ = _; rw [cellsB_length]; exact HML.out
  have HDC : Hid ((cellsB dk).length = 32) := by show _ = _; rw [cellsB_length]; exact HDL.out
  have HSC : Hid ((cellsB sc).length = 16) := by show _ = _; rw [cellsB_length]; exact HSL.out
  clear hmc hdk hsc
  go_wp2_with fail
  refine (HMA0.out w2 hK2 o2 p2 hR2).mono ?_
  rintro e w3 ⟨rfl, F3, R3⟩
  have K3 := hK2.frm F3 (fun h => h)
  have o3 := own_frm o2 F3 (fun _ _ h => h)
  have p3 := p2.frm2 F3 (fun _ _ h => h)
  have t3 := own_frm t2 F3 (fun _ _ h => h)
  clear hK2 hR2 o2 p2 t2 F3
  go_wp2_with (first
    | ((with_reducible refine wpl_alloca (op := ⟨some 11, _, _, _, _, _⟩) rfl _ rfl _ zero32 ?_); intro g11 w4 hB4 hs4 hF4)
    | ((with_reducible refine wpl_storea agg32 rfl (.tmp 11) (.tmp 32) rfl g11 (cellsB mc) rfl rfl _ _ hB4 HMC.out rfl (cellsB_one _) ?_); intro w5 hB5 hF5; have FF : Frm (fun j => j = g11) w3 w5 := ((hF4.mono (T := fun j => j = g11) (fun _ _ h => h.elim)).trans hF5 (fun _ _ h => h)); have b11 : w.heap.size < g11 := (by have := K3.lt; omega); have K5 := K3.frm FF (by omega))
    | (with_reducible refine wpl_loada (op := ⟨some 33, _, _, _, _, _⟩) aggK rfl _ rfl w.heap.size 0 rfl _ _ _ K5 HKX.out HKL.out ?_))
  have o5 := own_frm o3 FF (fun j hj => by have := (o3.lt j hj).2; omega)
  have p5 := p3.frm2 FF (fun g hg => by omega)
  have t5 := own_frm t3 FF (fun j hj => by have := (t3.lt j hj).2; omega)
  have R5 := R3.frm FF (fun j hj => by omega)
  clear K3 o3 p3 t3 R3 hB4 hF4 hF5 FF
  refine (HDA0.out w5 o5 p5 R5).mono ?_
  rintro e w6 ⟨rfl, F6, R6⟩
  have K6 := K5.frm F6 (fun h => h)
  have M6 := hB5.frm F6 (fun h => h)
  have o6 := own_frm o5 F6 (fun _ _ h => h)
  have p6 := p5.frm2 F6 (fun _ _ h => h)
  have t6 := own_frm t5 F6 (fun _ _ h => h)
  clear K5 hB5 o5 p5 t5 R5 F6
  go_wp2_with (first
    | ((with_reducible refine wpl_alloca (op := ⟨some 12, _, _, _, _, _⟩) rfl _ rfl _ zeroK ?_); intro g12 w7 hB7 hs7 hF7)
    | ((with_reducible refine wpl_storea aggK rfl (.tmp 12) (.tmp 36) rfl g12 (cellsB dk) rfl rfl _ _ hB7 HDC.out rfl (cellsB_one _) ?_); intro w8 hB8 hF8; have FF : Frm (fun j => j = g12) w6 w8 := ((hF7.mono (T := fun j => j = g12) (fun _ _ h => h.elim)).trans hF8 (fun _ _ h => h)); have b12 : w.heap.size < g12 := (by have := K6.lt; omega); have K8 := K6.frm FF (by omega))
    | (with_reducible refine wpl_loada (op := ⟨some 37, _, _, _, _, _⟩) aggK rfl _ rfl w.heap.size 0 rfl _ _ _ K8 HKX.out HKL.out ?_))
  have M8 := M6.frm FF (by have := M6.lt; omega)
  have o8 := own_frm o6 FF (fun j hj => by have := (o6.lt j hj).2; omega)
  have p8 := p6.frm2 FF (fun g hg => by omega)
  have t8 := own_frm t6 FF (fun j hj => by have := (t6.lt j hj).2; omega)
  have R8 := R6.frm FF (fun j hj => by omega)
  clear K6 M6 o6 p6 t6 R6 hB7 hF7 hF8 FF
  refine (HSA0.out w8 o8 p8 R8).mono ?_
  rintro e w9 ⟨rfl, F9, R9⟩
  have K9 := K8.frm F9 (fun h => h)
  have M9 := M8.frm F9 (fun h => h)
  have D9 := hB8.frm F9 (fun h => h)
  have o9 := own_frm o8 F9 (fun _ _ h => h)
  have p9 := p8.frm2 F9 (fun _ _ h => h)
  have t9 := own_frm t8 F9 (fun _ _ h => h)
  clear K8 M8 hB8 o8 p8 t8 R8 F9
  go_wp2_with (first
    | ((with_reducible refine wpl_alloca (op := ⟨some 13, _, _, _, _, _⟩) rfl _ rfl _ zero16 ?_); intro g13 w10 hB10 hs10 hF10)
    | ((with_reducible refine wpl_storea agg16 rfl (.tmp 13) (.tmp 39) rfl g13 (cellsB sc) rfl rfl _ _ hB10 HSC.out rfl (cellsB_one _) ?_); intro w11 hB11 hF11))
  have FF : Frm (fun j => j = g13) w9 w11 := ((hF10.mono (T := fun j => j = g13) (fun _ _ h => h.elim)).trans hF11 (fun _ _ h => h))
  have b13 : w.heap.size < g13 := by have := K9.lt; omega
  have HA0 : Hid (AInv w w1 g11 g12 g13 key mc dk sc A c TA tc k vs ps (ps.map id) w11) := by
    rw [Hid, List.map_id]
    exact ⟨own_frm o9 FF (fun j hj => by have := (o9.lt j hj).2; omega), own_frm t9 FF (fun j hj => by have := (t9.lt j hj).2; omega), p9.frm2 FF (fun g hg => by omega), K9.frm FF (by omega), M9.frm FF (by have := M9.lt; omega), D9.frm FF (by have := D9.lt; omega), hB11, R9.frm FF (fun j hj => by omega)⟩
  clear K9 M9 D9 o9 p9 t9 R9 hB10 hF10 hB11 hF11 FF
  have HMA := hide (fun W (hI : AInv w w1 g11 g12 g13 key mc dk sc A c TA tc k vs ps ps W) => HMA0.out W hI.key hI.own hI.parts hI.run)
  have HDA := hide (fun W (hI : AInv w w1 g11 g12 g13 key mc dk sc A c TA tc k vs ps ps W) => HDA0.out W hI.own hI.parts hI.run)
  have HSA := hide (fun W (hI : AInv w w1 g11 g12 g13 key mc dk sc A c TA tc k vs ps ps W) => HSA0.out W hI.own hI.parts hI.run)
  have q1 := eq_same mc HML.out
  have q2 := eq_sameG underK32 dk HDL.out
  have q3 := eq_sameG under16 sc HSL.out
  have hgd := guard32
  have hgd2 := guardK
  have hgd3 := guard16
  clear HMA0 HDA0 HSA0
  go_loopw [14, 15] (fun io iw wr => ∃ (i : Nat) (qs : List (List UInt8)), i ≤ k ∧ io = .int .i64 i ∧ Qt (xorL 255) id ps qs i 0 ∧ AInv w w1 g11 g12 g13 key mc dk sc A c TA tc k vs ps qs wr) (fun io _ _ => k - (intOf io).toNat)
  case atStart => exact ⟨0, _, by omega, rfl, Qt.start _ _ _, HA0.out⟩
  case round =>
    obtain ⟨i, qs, hik, rfl, hq, hi⟩ := hrel
    by_cases hlt : i < k
    · have hips : i < ps.length := by rw [HPL.out]; exact hlt
      obtain ⟨np, hnp⟩ : ∃ np, np = (ps.getD i []).length := ⟨_, rfl⟩
      have HNP : Hid ((ps.getD i []).length = np) := hnp.symm
      have hnpb : np ≤ 200 := by rw [hnp]; exact HPE.out i
      obtain ⟨go, co, hvv, _, _⟩ := World.ownsRow.form hi.own (by omega)
      injection hvv with hv1 hv2 hv3
      subst hv1 hv3
      have HQ := hide hq
      have HA := hide hi
      have hik' : (i : Int) < (k : Int) := by omega
      obtain ⟨v0, hvi, hvo⟩ := hi.parts.at2 i (by rw [hq.len]; exact hips)
      obtain ⟨Ai, ci, rfl⟩ := own_form hvo
      have hqlen : ∀ n qs, Qt (xorL 255) id ps qs i n → (qs.getD i []).length = np := fun n qs h => by
        rw [h.get i hips, if_neg (by omega), if_pos rfl, mix_length _ _ _ ((by rw [xorL_length]; rfl)), show (id (ps.getD i [])).length = (ps.getD i []).length from rfl, HNP.out]
      rw [hqlen 0 qs hq] at hvo hvi
      have HQL := hide hqlen
      have HVI := hide hvi
      clear hq hi hvo hvi hqlen hnp
      go_wp2_with fail
      go_loopw [15] (fun iw wr => ∃ (n : Nat) (qs : List (List UInt8)), n ≤ np ∧ iw = .int .i64 n ∧ Qt (xorL 255) id ps qs i n ∧ AInv w w1 g11 g12 g13 key mc dk sc (some ⟨go, 0, none⟩) c TA tc k vs ps qs wr) (fun iw _ => np - (intOf iw).toNat)
      case atStart => exact ⟨0, qs, by omega, rfl, HQ.out, HA.out⟩
      case round =>
        clear HQ HA
        obtain ⟨n, qs, hnn, rfl, hq, hi⟩ := hrel
        have hcc := hi.own.cells (g := go) rfl i _ HVI.out
        rw [addr_add, Nat.zero_add] at hcc
        have HQ := hide hq
        have HA := hide hi
        by_cases hn : n < np
        · obtain ⟨v1, hvi1, hvo1⟩ := hi.parts.at2 i (by rw [hq.len]; exact hips)
          rw [HVI.out] at hvi1
          injection hvi1 with hvi1
          subst hvi1
          rw [HQL.out n qs hq] at hvo1
          obtain ⟨b, cur, rfl, hbb, hB, hnc, htk, hcap⟩ := own_block hvo1 (by omega)
          have hgv : (qs.getD i []).getD n 0 = (id (ps.getD i [])).getD n 0 := by
            rw [hq.get i hips, if_neg (by omega), if_pos rfl, mix_getD _ _ _ ((by rw [xorL_length]; rfl)) (by rw [show (id (ps.getD i [])).length = (ps.getD i []).length from rfl, HNP.out]; exact hn)]
          have c2 : wr.cell? ⟨b, n, none⟩ = some (.int .u8 (((id (ps.getD i [])).getD n 0).toNat : Int)) := by rw [hB.cell, ← hgv]; exact own_get hnc htk hn
          have f2 := hB.frozen n
          have hx := byte_xor ((id (ps.getD i [])).getD n 0) 255
          have FD : Frm (fun _ => False) wr wr.drew := (Frm.refl _ _).drew
          have FINA := hide ((hi.frm0 FD).set HDIS.out hw1 i n b np ci ((id (ps.getD i [])).getD n 0 ^^^ 255) HVI.out (by rw [hq.len]; exact hips) (by rw [HQL.out n qs hq]; exact hn))
          have FINQ := hide (hq.set hips ((by rw [xorL_length]; rfl)) (by rw [show (id (ps.getD i [])).length = (ps.getD i []).length from rfl, HNP.out]; exact hn) ((id (ps.getD i [])).getD n 0 ^^^ 255) (xor255 (ps.getD i []) n (by rw [HNP.out]; exact hn)))
          have hx' : bits .xor .u8 (((id (ps.getD i [])).getD n 0).toNat : Int) 255 = (((id (ps.getD i [])).getD n 0 ^^^ 255).toNat : Int) := hx
          have hni : (n : Int) < (np : Int) := by omega
          clear hx hgv hq hi hvo1 hB hnc htk hbb FD HQ HA HVI HQL
          generalize ((id (ps.getD i [])).getD n 0 ^^^ 255) = z at *
          generalize ((id (ps.getD i [])).getD n 0).toNat = xa at *
          have c1d : wr.drew.cell? ⟨go, i, none⟩ = some (.slice (some ⟨b, 0, none⟩) np ci) := hcc
          have c2d : wr.drew.cell? ⟨b, n, none⟩ = some (.int .u8 (xa : Nat)) := c2
          have f2d : wr.drew.frozen? ⟨b, n, none⟩ = false := f2
          go_wp2_with fail
          go_still_tail 14, (by kernel_rfl)
          change wpList _ _ _ _ _ wr.drew
          go_wp2
          go_roundw
          case rel => first | exact ⟨n + 1, _, by omega, by go_num, FINQ.out, FINA.out⟩ | ((repeat apply Exists.intro); exact ⟨⟨n + 1, _, by omega, by go_num, FINQ.out, FINA.out⟩, rfl⟩)
          case measure => simp [intOf]; omega
        · obtain rfl : n = np := by omega
          have FINQ := hide (hq.next ((by rw [xorL_length]; rfl)) (by rw [show (id (ps.getD i [])).length = (ps.getD i []).length from rfl, HNP.out]; exact Nat.le_refl _))
          clear hq hi
          go_wp2_with fail
          go_roundw
          case rel => first | exact ⟨i + 1, qs, by omega, by go_num, FINQ.out, HA.out⟩ | ((repeat apply Exists.intro); exact ⟨⟨i + 1, qs, by omega, by go_num, FINQ.out, HA.out⟩, rfl⟩)
          case measure => simp [intOf]; omega
    · obtain rfl : k = i := by omega
      have HE : Hid (qs = ps.map (xorL 255)) := hq.stop (by rw [HPL.out]; exact Nat.le_refl _)
      rw [HE.out] at hi
      clear hq HE
      have HA1 := hide hi
      have HMX := hide (mac_now w wr (some ⟨w.heap.size, 0, none⟩) 32 32 key A k c vs (ps.map (xorL 255)) _ (by have := hi.key.rds; rwa [HKC.out] at this) (Nat.le_refl _) (by omega) (Seg.of_own hi.own).rds hi.parts.all2 rfl hi.run (by rw [map_flat_len _ (xorL_length 255)]; have := HPF.out; omega) (by rw [List.length_map, HPL.out]; omega))
      clear hi
      go_wp2_with fail
      refine HMX.out.mono ?_
      rintro e w30 ⟨rfl, F30, _⟩
      have HA2 := hide (HA1.out.frm0 F30)
      clear HA1 HMX F30
      go_wp2_with fail
      go_loopw [16, 17] (fun io iw wr => ∃ (i : Nat) (qs : List (List UInt8)), i ≤ k ∧ io = .int .i64 i ∧ Qt id (xorL 255) ps qs i 0 ∧ AInv w w1 g11 g12 g13 key mc dk sc A c TA tc k vs ps qs wr) (fun io _ _ => k - (intOf io).toNat)
      case atStart => exact ⟨0, _, by omega, rfl, Qt.start _ _ _, HA2.out⟩
      case round =>
        obtain ⟨i, qs, hik, rfl, hq, hi⟩ := hrel
        by_cases hlt : i < k
        · have hips : i < ps.length := by rw [HPL.out]; exact hlt
          obtain ⟨np, hnp⟩ : ∃ np, np = (ps.getD i []).length := ⟨_, rfl⟩
          have HNP : Hid ((ps.getD i []).length = np) := hnp.symm
          have hnpb : np ≤ 200 := by rw [hnp]; exact HPE.out i
          obtain ⟨go, co, hvv, _, _⟩ := World.ownsRow.form hi.own (by omega)
          injection hvv with hv1 hv2 hv3
          subst hv1 hv3
          have HQ := hide hq
          have HA := hide hi
          have hik' : (i : Int) < (k : Int) := by omega
          obtain ⟨v0, hvi, hvo⟩ := hi.parts.at2 i (by rw [hq.len]; exact hips)
          obtain ⟨Ai, ci, rfl⟩ := own_form hvo
          have hqlen : ∀ n qs, Qt id (xorL 255) ps qs i n → (qs.getD i []).length = np := fun n qs h => by
            rw [h.get i hips, if_neg (by omega), if_pos rfl, mix_length _ _ _ ((by rw [xorL_length]; rfl)), xorL_length, HNP.out]
          rw [hqlen 0 qs hq] at hvo hvi
          have HQL := hide hqlen
          have HVI := hide hvi
          clear hq hi hvo hvi hqlen hnp
          go_wp2_with fail
          go_loopw [17] (fun iw wr => ∃ (n : Nat) (qs : List (List UInt8)), n ≤ np ∧ iw = .int .i64 n ∧ Qt id (xorL 255) ps qs i n ∧ AInv w w1 g11 g12 g13 key mc dk sc (some ⟨go, 0, none⟩) c TA tc k vs ps qs wr) (fun iw _ => np - (intOf iw).toNat)
          case atStart => exact ⟨0, qs, by omega, rfl, HQ.out, HA.out⟩
          case round =>
            clear HQ HA
            obtain ⟨n, qs, hnn, rfl, hq, hi⟩ := hrel
            have hcc := hi.own.cells (g := go) rfl i _ HVI.out
            rw [addr_add, Nat.zero_add] at hcc
            have HQ := hide hq
            have HA := hide hi
            by_cases hn : n < np
            · obtain ⟨v1, hvi1, hvo1⟩ := hi.parts.at2 i (by rw [hq.len]; exact hips)
              rw [HVI.out] at hvi1
              injection hvi1 with hvi1
              subst hvi1
              rw [HQL.out n qs hq] at hvo1
              obtain ⟨b, cur, rfl, hbb, hB, hnc, htk, hcap⟩ := own_block hvo1 (by omega)
              have hgv : (qs.getD i []).getD n 0 = ((xorL 255) (ps.getD i [])).getD n 0 := by
                rw [hq.get i hips, if_neg (by omega), if_pos rfl, mix_getD _ _ _ ((by rw [xorL_length]; rfl)) (by rw [xorL_length, HNP.out]; exact hn)]
              have c2 : wr.cell? ⟨b, n, none⟩ = some (.int .u8 ((((xorL 255) (ps.getD i [])).getD n 0).toNat : Int)) := by rw [hB.cell, ← hgv]; exact own_get hnc htk hn
              have f2 := hB.frozen n
              have hx := byte_xor (((xorL 255) (ps.getD i [])).getD n 0) 255
              have FD : Frm (fun _ => False) wr wr.drew := (Frm.refl _ _).drew
              have FINA := hide ((hi.frm0 FD).set HDIS.out hw1 i n b np ci (((xorL 255) (ps.getD i [])).getD n 0 ^^^ 255) HVI.out (by rw [hq.len]; exact hips) (by rw [HQL.out n qs hq]; exact hn))
              have FINQ := hide (hq.set hips ((by rw [xorL_length]; rfl)) (by rw [xorL_length, HNP.out]; exact hn) (((xorL 255) (ps.getD i [])).getD n 0 ^^^ 255) (xor255' (ps.getD i []) n (by rw [HNP.out]; exact hn)))
              have hx' : bits .xor .u8 ((((xorL 255) (ps.getD i [])).getD n 0).toNat : Int) 255 = ((((xorL 255) (ps.getD i [])).getD n 0 ^^^ 255).toNat : Int) := hx
              have hni : (n : Int) < (np : Int) := by omega
              clear hx hgv hq hi hvo1 hB hnc htk hbb FD HQ HA HVI HQL
              generalize (((xorL 255) (ps.getD i [])).getD n 0 ^^^ 255) = z at *
              generalize (((xorL 255) (ps.getD i [])).getD n 0).toNat = xa at *
              have c1d : wr.drew.cell? ⟨go, i, none⟩ = some (.slice (some ⟨b, 0, none⟩) np ci) := hcc
              have c2d : wr.drew.cell? ⟨b, n, none⟩ = some (.int .u8 (xa : Nat)) := c2
              have f2d : wr.drew.frozen? ⟨b, n, none⟩ = false := f2
              go_wp2_with fail
              go_still_tail 14, (by kernel_rfl)
              change wpList _ _ _ _ _ wr.drew
              go_wp2
              go_roundw
              case rel => first | exact ⟨n + 1, _, by omega, by go_num, FINQ.out, FINA.out⟩ | ((repeat apply Exists.intro); exact ⟨⟨n + 1, _, by omega, by go_num, FINQ.out, FINA.out⟩, rfl⟩)
              case measure => simp [intOf]; omega
            · obtain rfl : n = np := by omega
              have FINQ := hide (hq.next ((by rw [xorL_length]; rfl)) (by rw [xorL_length, HNP.out]; exact Nat.le_refl _))
              have hqi : qs.getD i [] = ps.getD i [] := by rw [hq.get i hips, if_neg (by omega), if_pos rfl, mix_all _ _ _ ((by rw [xorL_length]; rfl)) (by rw [xorL_length, HNP.out]; exact Nat.le_refl _)]; rfl
              obtain ⟨v1, hvi1, hvo1⟩ := hi.parts.at2 i (by rw [hq.len]; exact hips)
              rw [HVI.out] at hvi1
              injection hvi1 with hvi1
              subst hvi1
              rw [hqi] at hvo1
              obtain ⟨gt, ct, htt, _, _⟩ := World.ownsRow.form hi.texts (by omega)
              injection htt with ht1 ht2 ht3
              subst ht1 ht3
              have htc := hi.texts.cells (g := gt) rfl i (strV (ps.getD i [])) (by rw [List.getElem?_map, List.getD_eq_getElem?_getD, List.getElem?_eq_getElem hips]; rfl)
              rw [addr_add, Nat.zero_add] at htc
              have hccq : ∀ q, (wr.drewN q).cell? ⟨go, i, none⟩ = some (.slice Ai n ci) := fun _ => hcc
              have htcq : ∀ q, (wr.drewN q).cell? ⟨gt, i, none⟩ = some (.string ⟨(ps.getD i []).toArray⟩) := fun _ => htc
              have hcvq : ∀ q, Sem.run Tryd.prog (convert 24 9 (.slice Ai n ci)) (wr.drewN q) = .ok (.string ⟨(ps.getD i []).toArray⟩) (wr.drewN q) := fun q => conv_rds (P := Tryd.prog) (wr.drewN q) 24 9 5 under24 under5 under9 Ai _ ci _ ((Seg.of_own hvo1).rds.frm (S := fun _ => False) ((Frm.refl _ _).drewN q) (fun _ _ _ h => h))
              have HFA := hide (fun q => hi.frm0 ((Frm.refl (fun _ => False) wr).drewN q))
              clear hq hi hvo1 htc hqi HQL HVI HQ HA
              generalize (⟨(ps.getD i []).toArray⟩ : ByteArray) = Bi at *
              go_wp2_with fail
              go_quiet (fail)
              go_wp2_with fail
              go_roundw
              case rel => first | exact ⟨i + 1, qs, by omega, by go_num, FINQ.out, HFA.out _⟩ | ((repeat apply Exists.intro); exact ⟨⟨i + 1, qs, by omega, by go_num, FINQ.out, HFA.out _⟩, rfl⟩)
              case measure => simp [intOf]; omega
        · obtain rfl : k = i := by omega
          have HE : Hid (qs = ps.map id) := hq.stop (by rw [HPL.out]; exact Nat.le_refl _)
          rw [HE.out] at hi
          clear hq HE
          rw [List.map_id] at hi
          have FD : Frm (fun _ => False) wr wr.drew := (Frm.refl _ _).drew
          have I0 := hi.frm0 FD
          clear hi FD
          go_wp2_with fail
          refine wp_region_held_drew (S := fun W => Blk W w.heap.size 43 (cellsB key).toArray ∧ Blk W g11 25 (cellsB mc).toArray ∧ Blk W g12 43 (cellsB dk).toArray ∧ Blk W g13 49 (cellsB sc).toArray) (by kernel_rfl) (⟨I0.key, I0.mac, I0.der, I0.sht⟩) ?_
          intro hHeld
          obtain ⟨W0, hW0⟩ : ∃ W0, W0 = wr.drew := ⟨_, rfl⟩
          rw [← hW0] at I0 hHeld ⊢
          clear hW0
          refine wpAnyH_take (i := 0) (v := ?v1) rfl (by kernel_rfl) (by kernel_rfl) (by kernel_rfl) (fun _ _ _ h => h) (Or.inl ⟨by rfl, ?hy1⟩) (by assumption) ?rest1
          case hy1 => (intro w hSw; (try dsimp only at hSw); go_simp; try with_reducible rfl)
          try simp only [Act.put, List.getElem_toArray, List.getElem_cons_zero, List.setIfInBounds_toArray, List.set_cons_zero, List.set_cons_succ]
          refine wpAnyH_take (i := 1) (v := ?v2) rfl (by kernel_rfl) (by kernel_rfl) (by kernel_rfl) (fun _ _ _ h => h) (Or.inl ⟨by rfl, ?hy2⟩) (by assumption) ?rest2
          case hy2 => (intro w hSw; (try dsimp only at hSw); go_simp; try with_reducible rfl)
          try simp only [Act.put, List.getElem_toArray, List.getElem_cons_zero, List.getElem_cons_succ, List.setIfInBounds_toArray, List.set_cons_zero, List.set_cons_succ]
          refine wpAnyH_take (i := 2) (v := ?v3) rfl (by kernel_rfl) (by kernel_rfl) (by kernel_rfl) (fun _ _ _ h => h) (Or.inl ⟨by rfl, ?hy3⟩) (by assumption) ?rest3
          case hy3 => (intro w hSw; (try dsimp only at hSw); go_simp; try with_reducible rfl)
          try simp only [Act.put, List.getElem_toArray, List.getElem_cons_zero, List.getElem_cons_succ, List.setIfInBounds_toArray, List.set_cons_zero, List.set_cons_succ]
          refine wpAnyH_take (i := 3) (v := ?v4) rfl (by kernel_rfl) (by kernel_rfl) (by kernel_rfl) (fun _ _ _ h => h) (Or.inl ⟨by rfl, ?hy4⟩) (by assumption) ?rest4
          case hy4 => (intro w hSw; (try dsimp only at hSw); go_simp; try with_reducible rfl)
          try simp only [Act.put, List.getElem_toArray, List.getElem_cons_zero, List.getElem_cons_succ, List.setIfInBounds_toArray, List.set_cons_zero, List.set_cons_succ]
          refine wpAnyH_take (i := 5) (v := ?v5) rfl (by kernel_rfl) (by kernel_rfl) (by kernel_rfl) (fun _ _ _ h => h) (Or.inl ⟨by rfl, ?hy5⟩) (by assumption) ?rest5
          case hy5 => (intro w hSw; refine held_loadG agg32 (.tmp 11) ?_ g11 ?_ mc HML.out _ hSw.2.1 <;> rfl)
          try simp only [Act.put, List.getElem_toArray, List.getElem_cons_zero, List.getElem_cons_succ, List.setIfInBounds_toArray, List.set_cons_zero, List.set_cons_succ]
          refine wpAnyH_ready (rs := [4]) (by kernel_rfl) (by simp) ?_
          refine AllReadyH.cons rfl (fun K hK => ?_) AllReadyH.nil
          go_simp
          refine (HMA.out _ I0).mono ?_
          rintro e W1 ⟨rfl, F1, _⟩
          have I1 := I0.frm0 F1
          refine hK.out _ _ (⟨I1.key, I1.mac, I1.der, I1.sht⟩) (fun hHeld => ?_)
          clear hK K
          refine wpAnyH_take (i := 6) (v := ?v6) rfl (by kernel_rfl) (by kernel_rfl) (by kernel_rfl) (fun _ _ _ h => h) (Or.inl ⟨by rfl, ?hy6⟩) (by assumption) ?rest6
          case hy6 => (intro w hSw; (try dsimp only at hSw); go_simp; try with_reducible rfl)
          try simp only [Act.put, List.getElem_toArray, List.getElem_cons_zero, List.getElem_cons_succ, List.setIfInBounds_toArray, List.set_cons_zero, List.set_cons_succ]
          refine wpAnyH_take (i := 7) (v := ?v7) rfl (by kernel_rfl) (by kernel_rfl) (by kernel_rfl) (fun _ _ _ h => h) (Or.inl ⟨by rfl, ?hy7⟩) (by assumption) ?rest7
          case hy7 => (intro w hSw; (try dsimp only at hSw); go_simp; try with_reducible rfl)
          try simp only [Act.put, List.getElem_toArray, List.getElem_cons_zero, List.getElem_cons_succ, List.setIfInBounds_toArray, List.set_cons_zero, List.set_cons_succ]
          refine wpAnyH_take (i := 8) (v := ?v8) rfl (by kernel_rfl) (by kernel_rfl) (by kernel_rfl) (fun _ _ _ h => h) (Or.inl ⟨by rfl, ?hy8⟩) (by assumption) ?rest8
          case hy8 => (intro w hSw; (try dsimp only at hSw); go_simp; try with_reducible rfl)
          try simp only [Act.put, List.getElem_toArray, List.getElem_cons_zero, List.getElem_cons_succ, List.setIfInBounds_toArray, List.set_cons_zero, List.set_cons_succ]
          refine wpAnyH_take (i := 9) (v := ?v9) rfl (by kernel_rfl) (by kernel_rfl) (by kernel_rfl) (fun _ _ _ h => h) (Or.inl ⟨by rfl, ?hy9⟩) (by assumption) ?rest9
          case hy9 => (intro w hSw; refine held_loadG aggK (.tmp 3) ?_ _ ?_ key hkey _ hSw.1 <;> rfl)
          try simp only [Act.put, List.getElem_toArray, List.getElem_cons_zero, List.getElem_cons_succ, List.setIfInBounds_toArray, List.set_cons_zero, List.set_cons_succ]
          refine wpAnyH_take (i := 10) (v := ?v10) rfl (by kernel_rfl) (by kernel_rfl) (by kernel_rfl) (fun _ _ _ h => h) (Or.inl ⟨by rfl, ?hy10⟩) (by assumption) ?rest10
          case hy10 => (intro w hSw; (try dsimp only at hSw); go_simp; try with_reducible rfl)
          try simp only [Act.put, List.getElem_toArray, List.getElem_cons_zero, List.getElem_cons_succ, List.setIfInBounds_toArray, List.set_cons_zero, List.set_cons_succ]
          refine wpAnyH_take (i := 11) (v := ?v11) rfl (by kernel_rfl) (by kernel_rfl) (by kernel_rfl) (fun _ _ _ h => h) (Or.inl ⟨by rfl, ?hy11⟩) (by assumption) ?rest11
          case hy11 => (intro w hSw; (try dsimp only at hSw); go_simp; try with_reducible rfl)
          try simp only [Act.put, List.getElem_toArray, List.getElem_cons_zero, List.getElem_cons_succ, List.setIfInBounds_toArray, List.set_cons_zero, List.set_cons_succ]
          refine wpAnyH_take (i := 13) (v := ?v12) rfl (by kernel_rfl) (by kernel_rfl) (by kernel_rfl) (fun _ _ _ h => h) (Or.inl ⟨by rfl, ?hy12⟩) (by assumption) ?rest12
          case hy12 => (intro w hSw; refine held_loadG aggK (.tmp 12) ?_ g12 ?_ dk HDL.out _ hSw.2.2.1 <;> rfl)
          try simp only [Act.put, List.getElem_toArray, List.getElem_cons_zero, List.getElem_cons_succ, List.setIfInBounds_toArray, List.set_cons_zero, List.set_cons_succ]
          refine wpAnyH_ready (rs := [12]) (by kernel_rfl) (by simp) ?_
          refine AllReadyH.cons rfl (fun K hK => ?_) AllReadyH.nil
          go_simp
          refine (HDA.out _ I1).mono ?_
          rintro e W2 ⟨rfl, F2, _⟩
          have I2 := I1.frm0 F2
          refine hK.out _ _ (⟨I2.key, I2.mac, I2.der, I2.sht⟩) (fun hHeld => ?_)
          clear hK K
          refine wpAnyH_take (i := 14) (v := ?v13) rfl (by kernel_rfl) (by kernel_rfl) (by kernel_rfl) (fun _ _ _ h => h) (Or.inl ⟨by rfl, ?hy13⟩) (by assumption) ?rest13
          case hy13 => (intro w hSw; (try dsimp only at hSw); go_simp; try with_reducible rfl)
          try simp only [Act.put, List.getElem_toArray, List.getElem_cons_zero, List.getElem_cons_succ, List.setIfInBounds_toArray, List.set_cons_zero, List.set_cons_succ]
          refine wpAnyH_take (i := 15) (v := ?v14) rfl (by kernel_rfl) (by kernel_rfl) (by kernel_rfl) (fun _ _ _ h => h) (Or.inl ⟨by rfl, ?hy14⟩) (by assumption) ?rest14
          case hy14 => (intro w hSw; (try dsimp only at hSw); go_simp; try with_reducible rfl)
          try simp only [Act.put, List.getElem_toArray, List.getElem_cons_zero, List.getElem_cons_succ, List.setIfInBounds_toArray, List.set_cons_zero, List.set_cons_succ]
          refine wpAnyH_take (i := 16) (v := ?v15) rfl (by kernel_rfl) (by kernel_rfl) (by kernel_rfl) (fun _ _ _ h => h) (Or.inl ⟨by rfl, ?hy15⟩) (by assumption) ?rest15
          case hy15 => (intro w hSw; (try dsimp only at hSw); go_simp; try with_reducible rfl)
          try simp only [Act.put, List.getElem_toArray, List.getElem_cons_zero, List.getElem_cons_succ, List.setIfInBounds_toArray, List.set_cons_zero, List.set_cons_succ]
          refine wpAnyH_take (i := 17) (v := ?v16) rfl (by kernel_rfl) (by kernel_rfl) (by kernel_rfl) (fun _ _ _ h => h) (Or.inl ⟨by rfl, ?hy16⟩) (by assumption) ?rest16
          case hy16 => (intro w hSw; refine held_loadG aggK (.tmp 3) ?_ _ ?_ key hkey _ hSw.1 <;> rfl)
          try simp only [Act.put, List.getElem_toArray, List.getElem_cons_zero, List.getElem_cons_succ, List.setIfInBounds_toArray, List.set_cons_zero, List.set_cons_succ]
          refine wpAnyH_take (i := 18) (v := ?v17) rfl (by kernel_rfl) (by kernel_rfl) (by kernel_rfl) (fun _ _ _ h => h) (Or.inl ⟨by rfl, ?hy17⟩) (by assumption) ?rest17
          case hy17 => (intro w hSw; (try dsimp only at hSw); go_simp; try with_reducible rfl)
          try simp only [Act.put, List.getElem_toArray, List.getElem_cons_zero, List.getElem_cons_succ, List.setIfInBounds_toArray, List.set_cons_zero, List.set_cons_succ]
          refine wpAnyH_take (i := 20) (v := ?v18) rfl (by kernel_rfl) (by kernel_rfl) (by kernel_rfl) (fun _ _ _ h => h) (Or.inl ⟨by rfl, ?hy18⟩) (by assumption) ?rest18
          case hy18 => (intro w hSw; refine held_loadG agg16 (.tmp 13) ?_ g13 ?_ sc HSL.out _ hSw.2.2.2 <;> rfl)
          try simp only [Act.put, List.getElem_toArray, List.getElem_cons_zero, List.getElem_cons_succ, List.setIfInBounds_toArray, List.set_cons_zero, List.set_cons_succ]
          refine wpAnyH_ready (rs := [19]) (by kernel_rfl) (by simp) ?_
          refine AllReadyH.cons rfl (fun K hK => ?_) AllReadyH.nil
          go_simp
          refine (HSA.out _ I2).mono ?_
          rintro e W3 ⟨rfl, F3, _⟩
          have I3 := I2.frm0 F3
          refine hK.out _ _ (⟨I3.key, I3.mac, I3.der, I3.sht⟩) (fun hHeld => ?_)
          clear hK K
          refine wpAnyH_take (i := 21) (v := ?v19) rfl (by kernel_rfl) (by kernel_rfl) (by kernel_rfl) (fun _ _ _ h => h) (Or.inl ⟨by rfl, ?hy19⟩) (by assumption) ?rest19
          case hy19 => (intro w hSw; (try dsimp only at hSw); go_simp; try with_reducible rfl)
          try simp only [Act.put, List.getElem_toArray, List.getElem_cons_zero, List.getElem_cons_succ, List.setIfInBounds_toArray, List.set_cons_zero, List.set_cons_succ]
          refine wpAnyH_take (i := 22) (v := ?v20) rfl (by kernel_rfl) (by kernel_rfl) (by kernel_rfl) (fun _ _ _ h => h) (Or.inl ⟨by rfl, ?hy20⟩) (by assumption) ?rest20
          case hy20 => (intro w hSw; (try dsimp only at hSw); go_simp; try with_reducible rfl)
          try simp only [Act.put, List.getElem_toArray, List.getElem_cons_zero, List.getElem_cons_succ, List.setIfInBounds_toArray, List.set_cons_zero, List.set_cons_succ]
          refine wpAnyH_take (i := 23) (v := ?v21) rfl (by kernel_rfl) (by kernel_rfl) (by kernel_rfl) (fun _ _ _ h => h) (Or.inl ⟨by rfl, ?hy21⟩) (by assumption) ?rest21
          case hy21 => (intro w hSw; (try dsimp only at hSw); go_simp; try with_reducible rfl)
          try simp only [Act.put, List.getElem_toArray, List.getElem_cons_zero, List.getElem_cons_succ, List.setIfInBounds_toArray, List.set_cons_zero, List.set_cons_succ]
          refine wpAnyH_done (by kernel_rfl) ?_ _
          go_wp2
          go_ret
          exact ⟨rfl, I3.run.below⟩
end Go.Proofs.YtbicjcpdcopbhaaDoor
