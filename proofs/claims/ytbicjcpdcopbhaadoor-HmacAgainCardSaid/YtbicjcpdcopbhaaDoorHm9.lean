/-
  Keys derived.
-/
import Derived.Test.YtbicjcpdcopbhaaDoorHm8
namespace Go.Proofs.YtbicjcpdcopbhaaDoor
set_option linter.unusedVariables false
open Go.RowKit

theorem bytes_frm (w : World) (e : TypeId) (s : ByteArray) : Frm (fun _ => False) w (Lib.bytesWorld w e s) :=
  ⟨by simp [Lib.bytesWorld, World.freeze, World.alloc, World.drew, -World.alloc_eq, -World.drew_eq], by simp [Lib.bytesWorld, World.freeze, World.alloc, World.drew, -World.alloc_eq, -World.drew_eq], by simp [Lib.bytesWorld, World.freeze, World.alloc, World.drew, -World.alloc_eq, -World.drew_eq], by rw [Lib.bytesWorld_size]; omega, fun k hk _ => Lib.bytesWorld_at_old w e s k hk⟩
theorem Frm.of_below2 {w w' : World} (h : Below w.heap.size w w') : Frm (fun k => w.heap.size ≤ k) w w' := ⟨h.os, h.tape, h.output, h.size, fun k hk _ => h.block k hk⟩
theorem txt_size (l : List UInt8) : (⟨l.toArray⟩ : ByteArray).size = l.length := by show l.toArray.size = l.length; simp
/-- []byte of a text. -/
theorem bytes_prt (w : World) (l : List UInt8) : Prt (Lib.bytesWorld w 5 ⟨l.toArray⟩) (.slice (some ⟨w.heap.size, 0, none⟩) l.length (grownCap w l.length 0 5)) l ∧ KindU (Lib.bytesWorld w 5 ⟨l.toArray⟩) (.slice (some ⟨w.heap.size, 0, none⟩) l.length (grownCap w l.length 0 5)) := by
  refine ⟨⟨_, _, rfl, grownCap_ge _ _ _ _, ⟨by rw [cellsB_length], fun _ => ⟨_, rfl, fun j u hu => ?_⟩⟩⟩, fun A n c hv _ a ha => ?_⟩
  · have hj : j < l.length := by have := (List.getElem?_eq_some_iff.1 hu).1; rwa [cellsB_length] at this
    rw [addr_add, Nat.zero_add, Lib.bytesWorld_cell w _ _ j (by rw [txt_size]; exact hj)]
    rw [getD_byte l j hj] at hu
    rw [← hu]
  · injection hv with h1
    subst h1
    injection ha with ha
    subst ha
    exact ⟨_, _, Lib.bytesWorld_at_new w _ _⟩
theorem conv_bytes (l : List UInt8) (n : Nat) (hn : l.length = n) (w : World) : Sem.run Tryd.prog (convert 9 24 (.string ⟨l.toArray⟩)) w = .ok (.slice (some ⟨w.heap.size, 0, none⟩) n (grownCap w n 0 5)) (Lib.bytesWorld w 5 ⟨l.toArray⟩) := by
  have := Lib.run_convert_string_bytes (P := Tryd.prog) w 9 24 5 ⟨l.toArray⟩ under9 under24 under5
  rw [txt_size, hn] at this
  exact this

/-- A block of another kind stays, where only blocks of bytes and slices turn. -/
structure DerInv (w : World) (g6 : Nat) (key : List UInt8) (A : Option Addr) (c n : Nat) (vs : List Value) (ls : List (List UInt8)) (wr : World) : Prop where
  own : wr.ownsRow w.heap.size 24 1 (.slice A n c) n vs
  parts : AllPc w wr vs ls
  key : Blk wr w.heap.size 43 (cellsB key).toArray
  res : Blk wr g6 43 (cellsB (List.replicate 32 0)).toArray
  below : Below w.heap.size w wr

set_option maxHeartbeats 8000000 in
set_option maxRecDepth 100000 in
theorem derive_any (key lab : List UInt8) (hkey : key.length = 32) (PA : Option Addr) (pc : Nat) (vs : List Value) (ls : List (List UInt8)) (w : World) (hG : Gl w) (hg0 : 2 ≤ w.heap.size)
    (hP : Prts w PA vs ls) (hlab : lab.length ≤ 100000) (hlen : ∀ k, (ls.getD k []).length ≤ 100000) (hl : ls.flatten.length ≤ 1000000) (hln : ls.length ≤ 100) :
    Calls Tryd.prog 31 #[.agg (cellsB key).toArray, .string ⟨lab.toArray⟩, .slice PA ls.length pc] w fun e w' => e = .returned (.agg (cellsB (deriveL key lab ls)).toArray) ∧ Below w.heap.size w w' := by
  have hslK := slK
  obtain ⟨N, hnn⟩ : ∃ n, n = ls.length := ⟨_, rfl⟩
  obtain ⟨nl, hnl⟩ : ∃ n, n = lab.length := ⟨_, rfl⟩
  have hcb := fun w => conv_bytes lab nl hnl.symm w
  have HN := hide hnn
  have HNL := hide hnl
  have HPs := hide hP
  have HDL := hide (deriveL_length key lab ls)
  have HDC : Hid ((cellsB (deriveL key lab ls)).length = 32) := by show _ = _; rw [cellsB_length]; exact HDL.out
  rw [← hnn] at hln ⊢
  rw [← hnl] at hlab
  have hF0 : Frm (fun _ => False) w (w.alloc (.cells (cellsB key).toArray 43)) := Frm.alloc _ _ _
  have hBK := Blk.new w 43 (cellsB key).toArray
  clear hP hnn hnl
  go_enter Tryd.func31, Tryd.ntmps31
  go_wp2_with ((with_reducible refine wpl_alloca (op := ⟨some 6, _, _, _, _, _⟩) rfl _ rfl _ zeroK ?_); intro g6 w1 hB1 hs1 hF1)
  have F1 := hF0.trans hF1 (fun _ _ h => h)
  have hK1 := hBK.frm hF1 (fun h => h)
  have hcp := bytes_prt w1 lab
  have F2 := bytes_frm w1 5 ⟨lab.toArray⟩
  rw [← HNL.out] at hcp
  have hs36 : w.heap.size < g6 := by have := hF0.size; simp at hs1; omega
  have F02 := F1.trans F2 (fun _ _ h => h)
  have hK2 := hK1.frm F2 (fun h => h)
  have hB2 := hB1.frm F2 (fun h => h)
  have hbel2 : Below w.heap.size w (Lib.bytesWorld w1 5 ⟨lab.toArray⟩) := F02.below (Nat.le_refl _) (fun _ h => h.elim)
  refine (withLength_any w _ (.slice none 0 0) 0 [] [] (some ⟨w1.heap.size, 0, none⟩) nl (grownCap w1 nl 0 5) lab ⟨rfl, .inl ⟨rfl, rfl⟩⟩ .nil (.inr hcp) HNL.out.symm (by omega) (by omega) hbel2).mono ?_
  rintro e w3 ⟨A3, c3, L3, rfl, hown3, hall3, hbel3, hF3⟩
  have hnn : ¬ (some w.heap.size = (Value.slice none 0 0).ownBlock) := by simp [Value.ownBlock]
  have hK3 := hK2.frm hF3 (by simp [Value.ownBlock])
  have hB3 := hB2.frm hF3 (by simp [Value.ownBlock])
  have HI : Hid (∃ vs', DerInv w g6 key A3 c3 2 vs' (measured (lab :: ls.take 0)) w3) := ⟨_, hown3, by simpa [measured] using hall3, hK3, hB3, hbel3⟩
  have hgl := hide hG
  clear hcb hF0 hBK hB1 hF1 F1 hK1 hcp F2 F02 hK2 hB2 hbel2 hown3 hall3 hbel3 hF3 hnn hK3 hB3 hG
  go_wp2_with fail
  go_loopw [7, 15] (fun v i wr => ∃ (k : Nat) (A : Option Addr) (c n2 : Nat) (vs' : List Value), k ≤ N ∧ i = .int .i64 k ∧ n2 = 2 * (k + 1) ∧ v = .slice A n2 c ∧ DerInv w g6 key A c n2 vs' (measured (lab :: ls.take k)) wr) (fun _ i _ => N - (intOf i).toNat)
  case atStart =>
    obtain ⟨vs', hi⟩ := HI.out
    exact ⟨0, A3, c3, 2, vs', by omega, rfl, rfl, rfl, hi⟩
  case round =>
    clear HI
    obtain ⟨k, A, c, n2, vs', hk, rfl, hn2, rfl, hi⟩ := hrel
    have Hn2 := hide hn2
    have hn2b : n2 ≤ 1000 := by omega
    clear hn2
    have HI := hide hi
    clear hi
    by_cases hlt : k < N
    · have hkl : k < ls.length := by rw [← HN.out]; exact hlt
      obtain ⟨v, hv, Ap, cp, rfl, hcp, hrp⟩ := HPs.out.2 k hkl
      obtain ⟨pa, rfl, hcell⟩ := HPs.out.1.2 (by omega)
      have hc0 := hcell k _ hv
      have hc1 : wr.cell? (pa.add k) = some (.slice Ap (ls.getD k []).length cp) := by rw [HI.out.below.cell (World.block_lt_of_cell? w _ hc0)]; exact hc0
      have hpc : Pc w wr (.slice Ap (ls.getD k []).length cp) (ls.getD k []) := .inl ⟨Ap, cp, rfl, hcp, hrp⟩
      have hlk := hlen k
      have HM := hide (withLength_any w wr (.slice A n2 c) n2 vs' (measured (lab :: ls.take k)) Ap (ls.getD k []).length cp (ls.getD k []) HI.out.own HI.out.parts hpc rfl hlk hn2b HI.out.below)
      have HME : Hid (measured (lab :: ls.take k) ++ [be 4 (ls.getD k []).length, ls.getD k []] = measured (lab :: ls.take (k + 1))) := by
        show _ = _
        rw [← measured_snoc]
        congr 1
        rw [List.cons_append, List.take_succ_eq_append_getElem hkl, List.getD_eq_getElem?_getD, List.getElem?_eq_getElem hkl]
        rfl
      obtain ⟨p, hp⟩ : ∃ p, p = ls.getD k [] := ⟨_, rfl⟩
      rw [← hp] at HM HME hc1
      clear hpc hlk hcell hv hrp hcp hc0 hp
      obtain ⟨np, hnp⟩ : ∃ np, np = p.length := ⟨_, rfl⟩
      rw [← hnp] at hc1 HM
      clear hnp
      go_wp2_with fail
      refine HM.out.mono ?_
      rintro e w5 ⟨A5, c5, L5, rfl, hown5, hall5, hbel5, hF5⟩
      have hK5 := HI.out.key.frm hF5 (own_other HI.out.own HI.out.key (by decide))
      have hB5 := HI.out.res.frm hF5 (own_other HI.out.own HI.out.res (by decide))
      rw [HME.out] at hall5
      have FIN : Hid (DerInv w g6 key A5 c5 (n2 + 2) _ (measured (lab :: ls.take (k + 1))) w5) := ⟨hown5, hall5, hK5, hB5, hbel5⟩
      clear HM hown5 hall5 hbel5 hF5 hK5 hB5
      go_wp2_with fail
      go_roundw
      case rel => first | exact ⟨k + 1, A5, c5, n2 + 2, _, by omega, by go_num, by have := Hn2.out; omega, rfl, FIN.out⟩ | ((repeat apply Exists.intro); exact ⟨⟨k + 1, A5, c5, n2 + 2, _, by omega, by go_num, by have := Hn2.out; omega, rfl, FIN.out⟩, rfl⟩)
      case measure => simp [intOf]; omega
    · obtain rfl : k = N := by omega
      have hall : ls.take k = ls := List.take_of_length_le (by rw [← HN.out]; exact Nat.le_refl _)
      have hinv := HI.out
      rw [hall] at hinv
      have hkr := hinv.key.rds
      rw [cellsB_length, hkey] at hkr
      have hrow : Prts wr A vs' (measured (lab :: ls)) := ⟨by have := (Seg.of_own hinv.own).rds; rw [measured_length, List.length_cons, ← HN.out, Nat.mul_comm]; rw [show (k + 1) * 2 = n2 by have := Hn2.out; omega]; exact this, (hinv.parts.all2 hinv.below).at⟩
      have hfl : (measured (lab :: ls)).flatten.length ≤ 1000000000 := by rw [measured_flat, List.length_cons, List.flatten_cons, List.length_append, ← HNL.out, ← HN.out]; omega
      have hml : (measured (lab :: ls)).length = n2 := by rw [measured_length, List.length_cons, ← HN.out]; have := Hn2.out; omega
      have hm := mac_any (some ⟨w.heap.size, 0, none⟩) 32 32 key A c vs' (measured (lab :: ls)) wr (hgl.out.frm (Frm.of_below2 hinv.below) (by omega) (by omega)) (by have := hinv.below.size; omega) hkr (Nat.le_refl _) (by omega) hrow hfl (by rw [hml]; omega)
      rw [hml] at hm
      have hbel := hinv.below
      have hres := hinv.res
      have HM := hide hm
      clear hm hinv hkr hrow hfl hml hall HI
      go_wp2_with fail
      refine HM.out.mono ?_
      rintro e w6 ⟨rfl, hb6⟩
      have hres6 := hres.frm (Frm.of_below (S := fun _ => False) hb6) (fun h => h)
      have HDE : Hid (macL key (measured (lab :: ls)).flatten = deriveL key lab ls) := rfl
      rw [HDE.out]
      go_wp2_with ((with_reducible refine wpl_storea aggK rfl (.tmp 6) (.tmp 25) rfl g6 (cellsB (deriveL key lab ls)) rfl rfl _ _ hres6 HDC.out rfl (cellsB_one _) ?_); intro w10 hB10 hF10)
      exact ret_agg aggK rfl rfl g6 _ _ rfl hB10 HDC.out ⟨rfl, below_frm (hbel.trans (hb6.mono hbel.size)) hF10 (by have := hbel.size; have := hb6.size; omega) (fun i hi => by omega)⟩
end Go.Proofs.YtbicjcpdcopbhaaDoor
