/-
  chacha: a stream.
-/
import Derived.Test.YtjdffceeinflcaaDoorCh6
namespace Go.Proofs.YtjdffceeinflcaaDoor
set_option linter.unusedVariables false
open Go.RowKit

theorem blocks_mid (key nonce : List UInt8) (c i : Nat) (h : i < c) : ((blocksL key nonce c).drop (64 * i)).take 64 = chaL key i nonce := by
  induction c with
  | zero => omega
  | succ c ih =>
    rw [blocksL]
    by_cases hi : i < c
    · rw [List.drop_append_of_le_length (by rw [blocksL_length]; omega), List.take_append_of_le_length (by rw [List.length_drop, blocksL_length]; omega)]
      exact ih hi
    · have : i = c := by omega
      subst this
      rw [List.drop_left' (by rw [blocksL_length]), List.take_of_length_le (by rw [chaL_length]; exact Nat.le_refl _)]
theorem stream_mid (key nonce : List UInt8) (n i k : Nat) (h : 64 * i + k ≤ n) (hk : k ≤ 64) (hi : 64 * i < n) : ((streamL key nonce n).drop (64 * i)).take k = (chaL key i nonce).take k := by
  rw [streamL, List.drop_take, List.take_take, ← blocks_mid key nonce ((n + 63) / 64) i (by omega), List.take_take]
  congr 1
  omega
theorem stream_splice (T Z : List UInt8) (m k : Nat) (h : T.length = Z.length) (hm : m + k ≤ T.length) : splice (cellsB (mix T Z m)) m (cellsB ((T.drop m).take k)) = cellsB (mix T Z (m + k)) := by
  have h1 : ((T.drop m).take k).length = k := by rw [List.length_take, List.length_drop]; omega
  have h2 : (mix T Z m).take m = T.take m := by rw [mix, List.take_append_of_le_length (by rw [List.length_take]; omega), List.take_take, Nat.min_self]
  have h3 : (mix T Z m).drop (m + k) = Z.drop (m + k) := by
    rw [mix, ← List.drop_drop, List.drop_left' (by rw [List.length_take]; omega), List.drop_drop]
  rw [splice, cellsB_length, h1, cellsB_take, cellsB_drop, h2, h3, ← cellsB_append, ← cellsB_append, mix, List.take_add, List.append_assoc]

structure StreamInv (w : World) (gk gn g : Nat) (key nonce : List UInt8) (l : List UInt8) (wr : World) : Prop where
  key : Blk wr gk 23 (cellsB key).toArray
  nonce : Blk wr gn 25 (cellsB nonce).toArray
  out : Blk wr g 5 (cellsB l).toArray
  gc : Gc wr
  below : Below w.heap.size w wr

set_option maxHeartbeats 4000000 in
theorem stream_any (key nonce : List UInt8) (n : Nat) (w : World) (hG : Gc w) (hg0 : 2 ≤ w.heap.size) (hk : key.length = 32) (hno : nonce.length = 12) (hn : n ≤ 1000000) :
    Calls Tryd.prog 13 #[.agg (cellsB key).toArray, .agg (cellsB nonce).toArray, .int .i64 (n : Int)] w (Made w (streamL key nonce n)) := by
  have hF0 : Frm (fun _ => False) w ((w.alloc (.cells (cellsB key).toArray 23)).alloc (.cells (cellsB nonce).toArray 25)) := Frm.two _ _ _
  have hBK := (Blk.new w 23 (cellsB key).toArray).frm (Frm.alloc (w.alloc (.cells (cellsB key).toArray 23)) (.cells (cellsB nonce).toArray 25) (fun _ => False)) (fun h => h)
  have hBN := Blk.new (w.alloc (.cells (cellsB key).toArray 23)) 25 (cellsB nonce).toArray
  rw [show (w.alloc (.cells (cellsB key).toArray 23)).heap.size = w.heap.size + 1 by simp] at hBN
  have HKL : Hid ((cellsB key).length = 32) := by show _ = _; rw [cellsB_length, hk]
  have HNL : Hid ((cellsB nonce).length = 12) := by show _ = _; rw [cellsB_length, hno]
  have HXK : Hid (((cellsB key).drop 0).take 32 = cellsB key) := by show _ = _; rw [List.drop_zero, List.take_of_length_le (by rw [HKL.out]; exact Nat.le_refl _)]
  have HXN : Hid (((cellsB nonce).drop 0).take 12 = cellsB nonce) := by show _ = _; rw [List.drop_zero, List.take_of_length_le (by rw [HNL.out]; exact Nat.le_refl _)]
  have HTL : Hid ((streamL key nonce n).length = n) := streamL_length _ _ _
  have HTM : Hid (∀ i k, 64 * i + k ≤ n → k ≤ 64 → 64 * i < n → ((streamL key nonce n).drop (64 * i)).take k = (chaL key i nonce).take k) := fun i k h1 h2 h3 => stream_mid key nonce n i k h1 h2 h3
  have HBA := hide (fun ctr w hG h2 hc => block_any key nonce ctr w hG h2 hk hno hc)
  obtain ⟨CH, hCH⟩ : ∃ CH : Nat → List UInt8, CH = fun i => chaL key i nonce := ⟨_, rfl⟩
  have HCL : Hid (∀ i, (CH i).length = 64) := by rw [hCH]; exact fun i => chaL_length _ _ _
  have HBA2 : Hid (∀ (ctr : Nat) (w : World), Gc w → 2 ≤ w.heap.size → ctr < 4294967296 → Calls Tryd.prog 11 #[.agg (cellsB key).toArray, .int .u32 (ctr : Int), .agg (cellsB nonce).toArray] w fun e w' => e = .returned (.agg (cellsB (CH ctr)).toArray) ∧ Below w.heap.size w w') := by rw [hCH]; exact HBA.out
  have HTM2 : Hid (∀ i k, 64 * i + k ≤ n → k ≤ 64 → 64 * i < n → ((streamL key nonce n).drop (64 * i)).take k = (CH i).take k) := by rw [hCH]; exact HTM.out
  clear hCH HBA HTM
  unfold Made
  rw [HTL.out]
  obtain ⟨T, hT⟩ : ∃ T, T = streamL key nonce n := ⟨_, rfl⟩
  rw [← hT] at HTL HTM2 ⊢
  have h31 : ¬ ((2147483647 : Int) < (n : Int)) := by omega
  have hnn : ¬ ((n : Int) < 0) := by omega
  have hsl64 : ∀ g w, Sem.run Tryd.prog (Instr.sliceAt 27 (.pointer (some ⟨g, 0, none⟩)) none none none) w = .ok (.slice (some ⟨g, 0, none⟩) 64 64) w := fun g w => run_slice_arr0 (P := Tryd.prog) (t := 27) (e := 5) (N := 64) under64b size8 g 0 (by omega) w
  clear hT hk hno
  go_enter Tryd.func13, Tryd.ntmps13
  go_wp2_with ((with_reducible refine wpl_make8 (op := ⟨some 18, _, _, _, _, _⟩) rfl _ rfl .i64 (n : Int) n rfl rfl hn ?_); intro g w1 hB1 hs1 hF1)
  have hF01 := hF0.trans hF1 (fun _ _ h => h)
  have HZ : Hid ((List.replicate n (0 : UInt8)).length = n) := List.length_replicate
  have HZT : Hid (T.length = (List.replicate n (0 : UInt8)).length) := by show _ = _; rw [HTL.out, HZ.out]
  have hsz := hF0.size
  have hgk := hBK.lt
  have hgn := hBN.lt
  have HST : Hid (StreamInv w w.heap.size (w.heap.size + 1) g key nonce (mix T (List.replicate n 0) 0) w1) := ⟨hBK.frm hF1 (fun h => h), hBN.frm hF1 (fun h => h), by rw [mix_zero]; exact hB1, hG.frm0 hF01, hF01.below (Nat.le_refl _) (fun _ h => h.elim)⟩
  have hne1 : w.heap.size ≠ g := by omega
  have hne2 : w.heap.size + 1 ≠ g := by omega
  have hge : w.heap.size ≤ g := by omega
  clear hBK hBN hB1 hF1 hF0 hF01 hG hs1 hsz hgk hgn h31 hnn
  obtain ⟨gk, hgk⟩ : ∃ gk, gk = w.heap.size := ⟨_, rfl⟩
  obtain ⟨gn, hgn⟩ : ∃ gn, gn = w.heap.size + 1 := ⟨_, rfl⟩
  rw [← hgn] at HST hne2 ⊢
  rw [← hgk] at HST hne1 ⊢
  clear hgn
  have HGK := hide hgk
  clear hgk
  go_loopw [8, 9] (fun l c wr => ∃ (i m : Nat) (A : Option Addr), m ≤ n ∧ i ≤ n ∧ l = .slice A (n - m) (n - m) ∧ c = .int .u32 (i : Int) ∧ (m < n → m = 64 * i ∧ A = some ⟨g, m, none⟩) ∧ StreamInv w gk gn g key nonce (mix T (List.replicate n 0) m) wr) (fun l _ _ => slen l)
  case atStart => exact ⟨0, 0, some ⟨g, 0, none⟩, by omega, by omega, by rw [Nat.sub_zero], rfl, fun _ => ⟨rfl, rfl⟩, HST.out⟩
  case round =>
    clear HST
    obtain ⟨i, m, A, hm, hin, rfl, rfl, hA, hi⟩ := hrel
    by_cases hlt : m < n
    · obtain ⟨hmi, rfl⟩ := hA hlt
      obtain ⟨r, hr⟩ : ∃ r, r = n - m := ⟨_, rfl⟩
      rw [← hr]
      obtain ⟨k, hk⟩ : ∃ k, k = Nat.min 64 r := ⟨_, rfl⟩
      have hk64 : k ≤ 64 := by rw [hk]; exact Nat.min_le_left _ _
      have hkr : k ≤ r := by rw [hk]; exact Nat.min_le_right _ _
      have hkc : k < r → k = 64 := by intro h; rw [hk] at h ⊢; have : Nat.min 64 r = min 64 r := rfl; omega
      have hk0 : 0 < k := by rw [hk]; exact Nat.lt_min.2 ⟨by omega, by omega⟩
      have hpos : (0 : Int) < (r : Int) := by omega
      have HCI := hide (HCL.out i)
      have HLC : Hid ((cellsB (CH i)).length = 64) := by show _ = _; rw [cellsB_length, HCI.out]
      have hsp := stream_splice T (List.replicate n 0) m k HZT.out (by rw [HTL.out]; omega)
      have htm := HTM2.out i k (by omega) hk64 (by omega)
      rw [← hmi] at htm
      rw [htm] at hsp
      have HSP := hide hsp
      have HBI := hide (fun w hG h2 => HBA2.out i w hG h2 (by omega))
      have HLT : Hid ((cellsB (mix T (List.replicate n 0) m)).length = n) := by show _ = _; rw [cellsB_length, mix_length _ _ _ HZT.out, HZ.out]
      have hwi : IntKind.u32.wrap ((i : Int) + 1) = ((i + 1 : Nat) : Int) := by rw [IntKind.wrap_u32']; omega
      obtain ⟨i1, hi1⟩ : ∃ i1, i1 = i + 1 := ⟨_, rfl⟩
      rw [← hi1] at hwi
      have HI1 := hide hi1
      obtain ⟨A2, hA2⟩ : ∃ A2, A2 = if r = k then some (⟨g, m, none⟩ : Addr) else (some (⟨g, m, none⟩ : Addr)).map (·.add k) := ⟨_, rfl⟩
      have HA2 := hide hA2
      have HAN : Hid (m + k < n → m + k = 64 * i1 ∧ A2 = some ⟨g, m + k, none⟩) := by
        intro h
        refine ⟨by have := hkc (by omega); omega, ?_⟩
        rw [hA2, if_neg (by omega), Option.map_some, addr_add]
      obtain ⟨ch, hch⟩ : ∃ ch, ch = CH i := ⟨_, rfl⟩
      rw [← hch] at HCI HLC HSP HBI
      have HKK := hide hk
      have HR := hide hr
      have HMI := hide hmi
      have HI := hide hi
      clear htm hsp hch hk hi hi1 hA2 hA hr hmi HTM2 HBA2 hkc
      have hbk := HI.out.key
      have hbn := HI.out.nonce
      go_wp2_with (first
        | (with_reducible refine wpl_loada (op := ⟨some 25, _, _, _, _, _⟩) aggK rfl _ rfl gk 0 rfl _ _ _ hbk HXK.out (by rw [HKL.out]; exact Nat.le_refl _) ?_)
        | (with_reducible refine wpl_loada (op := ⟨some 27, _, _, _, _, _⟩) agg12 rfl _ rfl gn 0 rfl _ _ _ hbn HXN.out (by rw [HNL.out]; exact Nat.le_refl _) ?_))
      refine (HBI.out wr HI.out.gc (by have := HI.out.below.size; omega)).mono ?_
      rintro e w5 ⟨rfl, hb5⟩
      have hF5 : Frm (fun _ => False) wr w5 := Frm.of_below hb5
      clear hbk hbn hb5
      have HMN : Hid (k = Nat.min 64 r) := HKK.out
      have HFIT : Hid (m + r ≤ (cellsB (mix T (List.replicate n 0) m)).length) := by show _ ≤ _; rw [HLT.out]; have := HR.out; omega
      have HZB : Hid ((cellsB (List.replicate 64 0)).toArray.size = 64) := rfl
      have hgo := HI.out.out.lt
      go_wp2_with (first
        | ((with_reducible refine wpl_alloca (op := ⟨some 10, _, _, _, _, _⟩) rfl _ rfl _ zero64b ?_); intro g10 w6 hB6 hs6 hF6)
        | ((with_reducible refine wpl_storea agg64b rfl (.tmp 10) (.tmp 28) rfl g10 (cellsB ch) rfl rfl _ _ hB6 HLC.out HZB.out (cellsB_one _) ?_); intro w7 hB7 hF7; have hne : g ≠ g10 := (by have := hF5.size; omega); have hO7 := ((HI.out.out.frm hF5 (fun h => h)).frm hF6 (fun h => h)).frm hF7 hne; have hR7 := hB7.rds; rw [HLC.out] at hR7)
        | ((with_reducible refine wpl_copyR rfl (.tmp 30) (.tmp 31) rfl g m r r (some ⟨g10, 0, none⟩) 64 64 k rfl rfl (cellsB (mix T (List.replicate n 0) m)) _ hO7 ch hR7 HMN.out HFIT.out ?_); intro w8 hB8 hF8; rw [HSP.out] at hB8)
        | (with_reducible refine wpl_cut (op := ⟨some 33, _, _, _, _, _⟩) rfl _ _ rfl (some ⟨g, m, none⟩) A2 r r k .i64 rfl rfl hkr (Nat.le_refl _) HA2.out ?_))
      have hF57 : Frm (fun i => i = g10) wr w7 := ((hF5.trans hF6 (fun _ _ h => h)).mono (T := fun i => i = g10) (fun _ _ h => h.elim)).trans hF7 (fun _ _ h => h)
      have hF58 : Frm (fun i => i = g10 ∨ i = g) wr w8 := (hF57.mono (T := fun i => i = g10 ∨ i = g) (fun _ _ h => .inl h)).trans hF8 (fun _ _ h => .inr h)
      have hkl := HI.out.key.lt
      have hnl := HI.out.nonce.lt
      have hg10 : wr.heap.size ≤ g10 := by have := hF5.size; omega
      have hbs := HI.out.below.size
      have FIN : Hid (StreamInv w gk gn g key nonce (mix T (List.replicate n 0) (m + k)) w8) := ⟨HI.out.key.frm hF58 (by omega), HI.out.nonce.frm hF58 (by omega), hB8, HI.out.gc.frm hF58 (by omega) (by omega), below_frm HI.out.below hF58 HI.out.below.size (fun i hi => by omega)⟩
      have hrk : r - k = n - (m + k) := by have := HR.out; omega
      have hmk : m + k ≤ n := by have := HR.out; omega
      have hi1n : i1 ≤ n := by have := HI1.out; have := HMI.out; omega
      have HRK := hide hrk
      clear hrk hF57 hF58 hF5 hF6 hF7 hF8 hB6 hB7 hB8 hO7 hR7 hkl hnl
      go_roundw
      case rel => first | exact ⟨i1, m + k, A2, hmk, hi1n, by rw [HRK.out], rfl, HAN.out, FIN.out⟩ | ((repeat apply Exists.intro); exact ⟨⟨i1, m + k, A2, hmk, hi1n, by rw [HRK.out], rfl, HAN.out, FIN.out⟩, rfl⟩)
      case measure => simp [slen]; omega
    · obtain rfl : m = n := by omega
      rw [mix_all _ _ _ HZT.out (by rw [HZ.out]; exact Nat.le_refl _)] at hi
      have h0 : m - m = 0 := Nat.sub_self _
      rw [h0]
      have ho := hi.out
      have hbel := hi.below
      clear hi hA h0
      go_wp2_with fail
      go_ret
      exact ⟨g, rfl, ho, hge, hbel⟩

theorem stream_neg (key nonce : List UInt8) (n : Int) (w : World) (hn : n < 0) :
    Calls Tryd.prog 13 #[.agg (cellsB key).toArray, .agg (cellsB nonce).toArray, .int .i64 n] w fun e w' => e = .returned (.slice none 0 0) ∧ Below w.heap.size w w' := by
  have hF0 : Frm (fun _ => False) w ((w.alloc (.cells (cellsB key).toArray 23)).alloc (.cells (cellsB nonce).toArray 25)) := Frm.two _ _ _
  have HB := hide (hF0.below (Nat.le_refl _) (fun _ h => h.elim))
  clear hF0
  go_enter Tryd.func13, Tryd.ntmps13
  go_wp2_with fail
  go_ret
  exact ⟨rfl, HB.out⟩
end Go.Proofs.YtjdffceeinflcaaDoor
