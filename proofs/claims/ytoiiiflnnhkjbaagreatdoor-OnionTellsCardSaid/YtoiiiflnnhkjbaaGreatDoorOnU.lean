/-
  The document's noughts, and its Xor of two texts.
-/
import Derived.Test.YtoiiiflnnhkjbaaGreatDoorOHmB
import Derived.Test.YtoiiiflnnhkjbaaGreatDoorOChB
namespace Go.Proofs.YtoiiiflnnhkjbaaGreatDoor
set_option linter.unusedVariables false
set_option linter.unusedSimpArgs false
open Go.RowKit

set_option maxHeartbeats 1000000 in
theorem noughts_any (n : Int) (w : World) (hn : n ≤ 1000) (hn0 : 0 ≤ n) :
    Calls Tryz.prog 20 #[.int .i64 n] w fun e w' => e = .returned (.string ⟨(zeros n.toNat).toArray⟩) ∧ Below w.heap.size w w' := by
  go_enter Tryz.func20, Tryz.ntmps20
  go_wp2_with fail
  go_loop [3, 4] (fun s i => ∃ k : Nat, k ≤ n.toNat ∧ i = .int .i64 k ∧ ∃ X : List UInt8, X = List.replicate k 0 ∧ s = .string ⟨X.toArray⟩) (fun _ i => n.toNat - (intOf i).toNat)
  case atStart => exact ⟨0, by omega, rfl, [], rfl, rfl⟩
  case round =>
    obtain ⟨k, hk, rfl, X, hX, rfl⟩ := hrel
    have HX := hide hX
    have HL : Hid (X.length = k) := by rw [hX, List.length_replicate]; rfl
    clear hX
    by_cases hlt : k < n.toNat
    · have hkn : (k : Int) < n := by omega
      have hap : ((⟨X.toArray⟩ : ByteArray) ++ ⟨#[0]⟩) = ⟨(X ++ [0]).toArray⟩ := txt_append X [0]
      have hxl : X.length ≤ 1000 := by have := HL.out; omega
      go_wp2
      go_round
      case rel => exact ⟨k + 1, by omega, by go_num, X ++ [0], by rw [HX.out, List.replicate_succ'], rfl⟩
      case measure => simp [intOf]; omega
    · have hkn : ¬ (k : Int) < n := by omega
      obtain rfl : k = n.toNat := by omega
      go_wp2
      go_ret
      exact ⟨by rw [HX.out]; rfl, Below.refl _ _⟩

/-! ### The row that []byte of a text makes -/
def CvB (w : World) (g : Nat) (l : List UInt8) : Prop := ∃ rest : Array Value, ∃ lo hi, l.length ≤ lo ∧ w.heap[g]? = some (.cells ((cellsB l).toArray ++ rest) 5 (lo, hi))
theorem CvB.new (w : World) (l : List UInt8) : CvB (Lib.bytesWorld w 5 ⟨l.toArray⟩) w.heap.size l := by
  have h := Lib.bytesWorld_at_new w 5 ⟨l.toArray⟩
  have e : Lib.bytesCells w 5 ⟨l.toArray⟩ = (cellsB l).toArray ++ Array.replicate (grownCap w (⟨l.toArray⟩ : ByteArray).size 0 5 - (⟨l.toArray⟩ : ByteArray).size) (.int .u8 0) := by
    unfold Lib.bytesCells
    congr 1
    apply Array.ext'
    simp [cellsB]
  refine ⟨_, _, _, ?_, by rw [← e]; exact h⟩
  rw [e]
  simp [cellsB_length]
section
variable {w w' : World} {g : Nat} {l : List UInt8}
theorem CvB.cell (h : CvB w g l) {k : Nat} (hk : k < l.length) : w.cell? ⟨g, k, none⟩ = some (.int .u8 ((l.getD k 0).toNat : Int)) := by
  obtain ⟨rest, lo, hi, _, hg⟩ := h
  rw [cell_of_row w g k _ _ _ hg, Array.getElem?_append_left (by rw [List.size_toArray, cellsB_length]; exact hk), List.getElem?_toArray]
  exact getD_byte l k hk
theorem CvB.frozen (h : CvB w g l) {k : Nat} (hk : k < l.length) : w.frozen? ⟨g, k, none⟩ = false := by
  obtain ⟨rest, lo, hi, hlo, hg⟩ := h
  simp only [World.frozen?, hg]
  have : ¬ lo ≤ k := by omega
  simp [this]
theorem CvB.set (h : CvB w g l) {k : Nat} (hk : k < l.length) (b : UInt8) : CvB (w.setCell ⟨g, k, none⟩ (.int .u8 (b.toNat : Int))) g (l.set k b) := by
  obtain ⟨rest, lo, hi, hlo, hg⟩ := h
  refine ⟨rest, lo, hi, by rw [List.length_set]; exact hlo, ?_⟩
  have e : (cellsB (l.set k b)).toArray ++ rest = ((cellsB l).toArray ++ rest).setIfInBounds k (.int .u8 (b.toNat : Int)) := by
    apply Array.ext'
    simp only [Array.toList_append, Array.toList_setIfInBounds]
    rw [List.set_append_left _ _ (by rw [cellsB_length]; exact hk), ← cellsB_set]
  rw [e]
  simp [World.setCell, Array.getElem?_modify, hg]
theorem CvB.lt (h : CvB w g l) : g < w.heap.size := by
  obtain ⟨rest, lo, hi, hlo, hg⟩ := h
  exact (Array.getElem?_eq_some_iff.1 hg).1
theorem CvB.rds (h : CvB w g l) {n : Nat} (hn : l.length = n) : Rds w (some ⟨g, 0, none⟩) n (cellsB l) := by
  subst hn
  refine ⟨cellsB_length _, fun _ => ⟨_, rfl, fun j u hu => ?_⟩⟩
  have hj : j < l.length := by have := (List.getElem?_eq_some_iff.1 hu).1; rwa [cellsB_length] at this
  rw [addr_add, Nat.zero_add, h.cell hj]
  rw [getD_byte l j hj] at hu
  exact hu
end

theorem allOnes_byte (y : UInt8) : (255 - y.toNat) = (~~~ y).toNat := by
  have h2 : (~~~ y).toNat = (~~~ y.toBitVec).toNat := rfl
  rw [h2, BitVec.toNat_not]
  have := y.toNat_lt
  show 255 - y.toNat = 2^8 - 1 - y.toNat
  omega
theorem xor_sum (x y : UInt8) : (x &&& ~~~ y).toNat + (y &&& ~~~ x).toNat = (x ^^^ y).toNat := by
  have h : x.toBitVec &&& ~~~ y.toBitVec &&& (y.toBitVec &&& ~~~ x.toBitVec) = 0#8 := by
    ext i hi
    simp
    cases x.toBitVec[i] <;> simp
  have h1 := BitVec.toNat_add_of_and_eq_zero h
  have h2 : x.toBitVec &&& ~~~ y.toBitVec ||| (y.toBitVec &&& ~~~ x.toBitVec) = x.toBitVec ^^^ y.toBitVec := by
    ext i hi
    simp
    cases x.toBitVec[i] <;> cases y.toBitVec[i] <;> simp
  have h3 := BitVec.add_eq_or_of_and_eq_zero _ _ h
  show (x.toBitVec &&& ~~~ y.toBitVec).toNat + (y.toBitVec &&& ~~~ x.toBitVec).toNat = (x.toBitVec ^^^ y.toBitVec).toNat
  rw [← h1, h3, h2]
theorem byte_and (a b : UInt8) : bits .and .u8 (a.toNat : Int) (b.toNat : Int) = ((a &&& b).toNat : Int) := by
  have ha := a.toNat_lt
  have hb := b.toNat_lt
  have h1 : (BitVec.ofInt 8 (a.toNat : Int)).toNat = a.toNat := by rw [BitVec.toNat_ofInt]; omega
  have h2 : (BitVec.ofInt 8 (b.toNat : Int)).toNat = b.toNat := by rw [BitVec.toNat_ofInt]; omega
  have h3 : a.toNat &&& b.toNat < 256 := Nat.lt_of_le_of_lt Nat.and_le_left ha
  show IntKind.u8.wrap ((BitVec.ofInt 8 (a.toNat : Int) &&& BitVec.ofInt 8 (b.toNat : Int)).toNat : Nat) = _
  rw [BitVec.toNat_and, h1, h2, UInt8.toNat_and, IntKind.wrap_u8]
  omega


set_option maxHeartbeats 4000000 in
theorem rxor11_any (p q : List UInt8) (w : World) (hp : p.length ≤ 100000) (hpq : p.length ≤ q.length) :
    Calls Tryz.prog 22 #[.string ⟨p.toArray⟩, .string ⟨q.toArray⟩] w fun e w' => e = .returned (.string ⟨(xorB p q).toArray⟩) ∧ Below w.heap.size w w' := by
  obtain ⟨n, hn⟩ : ∃ n, n = p.length := ⟨_, rfl⟩
  have hsp : (⟨p.toArray⟩ : ByteArray).size = n := by rw [txt_size, hn]
  obtain ⟨T, hT⟩ : ∃ T, T = xorB p q := ⟨_, rfl⟩
  have HTL : Hid (T.length = p.length) := by show _ = _; rw [hT, xorB_length]; omega
  have HTA : Hid (∀ k, k < n → T[k]? = some (p.getD k 0 ^^^ q.getD k 0)) := fun k h1 => by rw [hT, xorB_at p q k (by omega) (by omega)]
  have HIP : Hid (∀ k, k < n → ∀ w, Sem.run Tryz.prog (Instr.index 9 (.string ⟨p.toArray⟩) (.int .i64 (k : Int))) w = .ok (.int .u8 ((p.getD k 0).toNat : Int)) w) := fun k hk w => str_index p k (by omega) w
  have HIQ : Hid (∀ k, k < n → ∀ w, Sem.run Tryz.prog (Instr.index 9 (.string ⟨q.toArray⟩) (.int .i64 (k : Int))) w = .ok (.int .u8 ((q.getD k 0).toNat : Int)) w) := fun k hk w => str_index q k (by omega) w
  have HPN : Hid (p.length = n) := hn.symm
  have hcv := conv_bytes p n hn.symm w
  have HC0 := hide (CvB.new w p)
  have HF0 := hide ((bytes_frm w 5 ⟨p.toArray⟩).below (Nat.le_refl _) (fun _ h => h.elim))
  rw [← hT]
  have HNP : n ≤ 100000 := by omega
  clear hT hn hp hpq
  generalize (⟨p.toArray⟩ : ByteArray) = sp at *
  generalize (⟨q.toArray⟩ : ByteArray) = sq at *
  generalize hW1 : Lib.bytesWorld w 5 sp = W1 at *
  clear hW1
  generalize grownCap w n 0 5 = c at *
  obtain ⟨g, hg⟩ : ∃ g, g = w.heap.size := ⟨_, rfl⟩
  have HG : Hid (w.heap.size ≤ g) := by rw [hg]; exact Nat.le_refl _
  rw [← hg] at hcv HC0
  clear hg
  go_enter Tryz.func22, Tryz.ntmps22
  go_wp2_with fail
  clear hcv
  go_loopw [6] (fun i wr => ∃ k : Nat, k ≤ n ∧ i = .int .i64 k ∧ CvB wr g (mix T p k) ∧ Below w.heap.size w wr) (fun i _ => n - (intOf i).toNat)
  case atStart => exact ⟨0, by omega, rfl, by rw [mix_zero]; exact HC0.out, HF0.out⟩
  case round =>
    clear HC0 HF0
    obtain ⟨k, hk, rfl, hi, hbel⟩ := hrel
    have HML : Hid ((mix T p k).length = n) := by show _ = _; rw [mix_length _ _ _ HTL.out, HPN.out]
    by_cases hlt : k < n
    · have i1 : (k : Int) < (n : Int) := by omega
      have hkl : k < (mix T p k).length := by rw [HML.out]; exact hlt
      have hip := HIP.out k hlt
      have hiq := HIQ.out k hlt
      have hf1 := hi.frozen hkl
      have hc1 := hi.cell hkl
      have hset := mix_set T p k (p.getD k 0 ^^^ q.getD k 0) HTL.out (by rw [HPN.out]; exact hlt) (HTA.out k hlt)
      have fin : CvB (wr.setCell ⟨g, k, none⟩ (.int .u8 ((p.getD k 0 ^^^ q.getD k 0).toNat : Int))) g (mix T p (k + 1)) ∧ Below w.heap.size w (wr.setCell ⟨g, k, none⟩ (.int .u8 ((p.getD k 0 ^^^ q.getD k 0).toNat : Int))) := by
        have hb := hi.set hkl (p.getD k 0 ^^^ q.getD k 0)
        rw [hset] at hb
        exact ⟨hb, below_frm hbel (Frm.setCell _ _ _ (fun i => i = g) rfl) hbel.size (fun i hi => by have := HG.out; omega)⟩
      have FIN := hide fin
      have a1 := allOnes_byte (q.getD k 0)
      have a2 := allOnes_byte (p.getD k 0)
      have b1 := byte_and (p.getD k 0) (~~~ (q.getD k 0))
      have b2 := byte_and (q.getD k 0) (~~~ (p.getD k 0))
      have s1 := xor_sum (p.getD k 0) (q.getD k 0)
      have l1 := (p.getD k 0).toNat_lt
      have l2 := (q.getD k 0).toNat_lt
      have l3 := (p.getD k 0 ^^^ q.getD k 0).toNat_lt
      clear fin hset hi hbel
      generalize (p.getD k 0 ^^^ q.getD k 0).toNat = z at *
      generalize (p.getD k 0 &&& ~~~ (q.getD k 0)).toNat = r1 at *
      generalize (q.getD k 0 &&& ~~~ (p.getD k 0)).toNat = r2 at *
      generalize (~~~ (q.getD k 0)).toNat = nq at *
      generalize (~~~ (p.getD k 0)).toNat = np at *
      generalize (p.getD k 0).toNat = x at *
      generalize (q.getD k 0).toNat = y at *
      have w1 : IntKind.u8.wrap (255 - (y : Int)) = (nq : Int) := by rw [IntKind.wrap_u8]; omega
      have w2 : IntKind.u8.wrap (255 - (x : Int)) = (np : Int) := by rw [IntKind.wrap_u8]; omega
      have w3 : IntKind.u8.wrap ((r1 : Int) + (r2 : Int)) = (z : Int) := by rw [IntKind.wrap_u8]; omega
      clear a1 a2 s1 l1 l2 l3
      obtain ⟨vo, hvo⟩ : ∃ v, wr.cell? ⟨g, k, none⟩ = some v := ⟨_, hc1⟩
      clear hc1
      go_wp2_with fail
      go_roundw
      case rel => first | exact ⟨k + 1, by omega, by go_num, FIN.out⟩ | ((repeat apply Exists.intro); exact ⟨⟨k + 1, by omega, by go_num, FIN.out⟩, rfl⟩)
      case measure => simp [intOf]; omega
    · obtain rfl : k = n := by omega
      rw [mix_all _ _ _ HTL.out (by rw [HPN.out]; exact Nat.le_refl _)] at hi
      have hcs := conv_rds (P := Tryz.prog) wr 46 9 5 under24 under5 under9 (some ⟨g, 0, none⟩) k c T (hi.rds (by rw [HTL.out, HPN.out]))
      have HB := hide hbel
      clear hbel hi
      go_wp2_with fail
      go_ret
      exact ⟨rfl, HB.out⟩
end Go.Proofs.YtoiiiflnnhkjbaaGreatDoor
