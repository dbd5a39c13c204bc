/-
  The document's roots of primes: long numbers multiplied.
-/
import Derived.Test.YtbicjcpdcopbhaaDoorRo2
namespace Go.Proofs.YtbicjcpdcopbhaaDoor
set_option linter.unusedVariables false
set_option linter.unusedSimpArgs false
open Go.RowKit

theorem info64 : (Tryd.prog.info? 32).map (fun i => (i.zero, i.size, i.bytes)) = some (some (.int .u64 0), 1, 8) := by kernel_rfl
theorem under75 : Tryd.prog.underlying 75 = some (.slice 32) := by kernel_rfl
theorem wpl_makeQ {ops : Array Oper} {rest : List Oper} {op : Oper} {a : Act} {w : World} {Q : Exit → Act → World → Prop} (hgd : op.guard = none) (x : Operand) (ho : op.op = .makeSlice 75 x x)
    (k : IntKind) (C : Int) (c : Nat) (hx : a.eval x = .int k C) (hC : C = (c : Int)) (hc : c ≤ 1000000)
    (h : ∀ g w', Blk w' g 32 (cellsQ (List.replicate c 0)).toArray → w.heap.size ≤ g → Frm (fun _ => False) w w' → wpList Tryd.prog ops Q rest (a.put op.dst (.slice (some ⟨g, 0, none⟩) c c)) w') : wpList Tryd.prog ops Q (op :: rest) a w := by
  subst hC
  refine wpList_plain hgd fun K hK => ?_
  have hinfo := info64
  cases hq : Tryd.prog.info? 32 with
  | none => rw [hq] at hinfo; cases hinfo
  | some i =>
    rw [hq] at hinfo
    simp at hinfo
    obtain ⟨hz, hs, hb⟩ := hinfo
    have hr := run_make (P := Tryd.prog) w 75 32 i _ under75 hq hz k k (c : Int) (c : Int) (by omega) (by omega) (by rw [hb]; omega) (by omega)
    rw [hs] at hr
    simp only [Int.toNat_natCast, Nat.mul_one, Value.cells, madeCells1] at hr
    have hcell : (List.replicate c (Value.int .u64 0)) = cellsQ (List.replicate c 0) := by simp [cellsQ]
    rw [hcell] at hr
    unfold Oper.wp execOp
    simp [ho, hx, hr, Oper.upon, Result.andThen]
    exact hK _ _ (h _ _ (Blk.new _ _ _) (Nat.le_refl _) (Frm.alloc _ _ _))

theorem tIn_length (a b o : List Nat) (i k : Nat) : (tIn a b o i k).length = o.length := by
  induction k with
  | zero => rfl
  | succ k ih => rw [tIn, List.length_set, ih]
theorem tOut_length (a b : List Nat) (i : Nat) : (tOut a b i).length = a.length + b.length := by
  induction i with
  | zero => simp [tOut]
  | succ i ih => rw [tOut, tIn_length, ih]
theorem tUp_length (c : List Nat) (i : Nat) : (tUp c i).length = c.length := by rw [tUp, List.length_set]
theorem tCar_length (o : List Nat) (i : Nat) : (tCar o i).length = o.length := by
  induction i with
  | zero => rfl
  | succ i ih => rw [tCar, List.length_set, tUp_length, ih]
theorem tUp_low (c : List Nat) (j : Nat) : (tUp c j).getD j 0 = c.getD j 0 := by
  rw [tUp, List.getD_eq_getElem?_getD, List.getElem?_set, if_neg (by omega), ← List.getD_eq_getElem?_getD]
theorem timesL_length (a b : List Nat) : (timesL a b).length = a.length + b.length := by rw [timesL, tCar_length, tOut_length]

structure TInvQ (w : World) (g : Nat) (l : List Nat) (wr : World) : Prop where
  out : Blk wr g 32 (cellsQ l).toArray
  below : Below w.heap.size w wr
theorem TInvQ.set {w : World} {g : Nat} {l : List Nat} {wr : World} (h : TInvQ w g l wr) (hg : w.heap.size ≤ g) (k x : Nat) : TInvQ w g (l.set k x) (wr.setCell ⟨g, k, none⟩ (.int .u64 (x : Int))) := by
  have hb := h.out.set k (.int .u64 (x : Int))
  rw [List.setIfInBounds_toArray, cellsQ_set] at hb
  exact ⟨hb, below_frm h.below (Frm.setCell _ _ _ (fun j => j = g) rfl) h.below.size (fun j hj => by omega)⟩
theorem TInvQ.drew {w : World} {g : Nat} {l : List Nat} {wr : World} (h : TInvQ w g l wr) : TInvQ w g l wr.drew := ⟨h.out, ⟨h.below.os, h.below.tape, h.below.output, h.below.size, h.below.block⟩⟩
theorem TInvQ.cell {w : World} {g : Nat} {l : List Nat} {wr : World} (h : TInvQ w g l wr) (j : Nat) (hj : j < l.length) : wr.cell? ⟨g, j, none⟩ = some (.int .u64 ((l.getD j 0 : Nat) : Int)) := by
  rw [h.out.cell, List.getElem?_toArray, cellsQ_at l j hj]

set_option maxHeartbeats 8000000 in
set_option maxRecDepth 100000 in
theorem times_any (pa pb : Addr) (na nb ca cb : Nat) (a b : List Nat) (w : World) (ha : Rds w (some pa) na (cellsQ a)) (hb : Rds w (some pb) nb (cellsQ b)) (hna : na ≤ 100) (hnb : nb ≤ 100) (hpa : 0 < na) (hpb : 0 < nb) :
    Calls Tryd.prog 45 #[.slice (some pa) na ca, .slice (some pb) nb cb] w fun e w' => ∃ g, e = .returned (.slice (some ⟨g, 0, none⟩) (na + nb) (na + nb)) ∧ Rds w' (some ⟨g, 0, none⟩) (na + nb) (cellsQ (timesL a b)) ∧ Below w.heap.size w w' := by
  have hla : a.length = na := by have := ha.1; rwa [cellsQ_length] at this
  have hlb : b.length = nb := by have := hb.1; rwa [cellsQ_length] at this
  have HA := hide ha
  have HB := hide hb
  have Hla := hide hla
  have Hlb := hide hlb
  obtain ⟨N, hN⟩ : ∃ N, N = na + nb := ⟨_, rfl⟩
  have HN := hide hN
  have e0 : IntKind.i64.wrap ((na : Int) + (nb : Int)) = (N : Int) := by rw [IntWalk.i64_in _ (by omega)]; omega
  have e0' : (na : Int) + (nb : Int) = (N : Int) := by omega
  have hNb : N ≤ 200 := by omega
  have hN2 : 2 ≤ N := by omega
  rw [← hN]
  clear ha hb hla hlb hN
  go_enter Tryd.func45, Tryd.ntmps45
  go_wp2_with ((with_reducible refine wpl_makeQ (op := ⟨some 14, _, _, _, _, _⟩) rfl _ rfl .i64 _ N rfl rfl (by omega) ?_); intro g w1 hB1 hs1 hF1)
  have HI : Hid (TInvQ w g (tOut a b 0) w1) := ⟨by rw [tOut, Hla.out, Hlb.out, ← HN.out]; exact hB1, hF1.below (Nat.le_refl _) (fun _ h => h.elim)⟩
  clear hB1 hF1 e0 e0'
  go_loopw [6, 7] (fun i x wr => ∃ n : Nat, n ≤ na ∧ i = .int .i64 n ∧ TInvQ w g (tOut a b n) wr) (fun i _ _ => na - (intOf i).toNat)
  case atStart => exact ⟨0, by omega, rfl, HI.out⟩
  case round =>
    clear HI
    obtain ⟨i, hi, rfl, ht⟩ := hrel
    by_cases hin : i < na
    · have hii : (i : Int) < (na : Int) := by omega
      have HT := hide ht
      clear ht
      go_wp2_with fail
      go_loopw [7] (fun x wr => ∃ k : Nat, k ≤ nb ∧ x = .int .i64 k ∧ TInvQ w g (tIn a b (tOut a b i) i k) wr) (fun x _ => nb - (intOf x).toNat)
      case atStart => exact ⟨0, by omega, rfl, HT.out⟩
      case round =>
        clear HT
        obtain ⟨k, hk, rfl, ht⟩ := hrel
        by_cases hkn : k < nb
        · obtain ⟨s, hs⟩ : ∃ s, s = i + k := ⟨_, rfl⟩
          have hsN : s < N := by have := HN.out; omega
          have hlen : (tIn a b (tOut a b i) i k).length = N := by rw [tIn_length, tOut_length, Hla.out, Hlb.out, ← HN.out]
          have c1 := ht.cell s (by rw [hlen]; exact hsN)
          have f1 := ht.out.frozen s
          have HAW := HA.out.below ht.below
          have HBW := HB.out.below ht.below
          have c2 := Dg.get HAW i hin
          have c3 := Dg.get HBW k hkn
          have HSet : Hid (tIn a b (tOut a b i) i (k + 1) = (tIn a b (tOut a b i) i k).set s (mod64 ((tIn a b (tOut a b i) i k).getD s 0 + mod64 (a.getD i 0 * b.getD k 0)))) := by show _ = _; rw [hs]; rfl
          have FIN0 := hide (ht.drew.set hs1 s (mod64 ((tIn a b (tOut a b i) i k).getD s 0 + mod64 (a.getD i 0 * b.getD k 0))))
          rw [← HSet.out] at FIN0
          have m1 := wrap64m (a.getD i 0) (b.getD k 0)
          have m2 := wrap64a ((tIn a b (tOut a b i) i k).getD s 0) (mod64 (a.getD i 0 * b.getD k 0))
          have e1 : IntKind.i64.wrap (s : Int) = (s : Int) := IntWalk.i64_in _ (by omega)
          have e2 : (i : Int) + (k : Int) = (s : Int) := by omega
          have hsi : (s : Int) < (N : Int) := by omega
          have hki : (k : Int) < (nb : Int) := by omega
          clear ht hlen HAW HBW HSet hs
          generalize mod64 ((tIn a b (tOut a b i) i k).getD s 0 + mod64 (a.getD i 0 * b.getD k 0)) = r2 at *
          generalize mod64 (a.getD i 0 * b.getD k 0) = r1 at *
          generalize (tIn a b (tOut a b i) i k).getD s 0 = x0 at *
          generalize a.getD i 0 = xa at *
          generalize b.getD k 0 = xb at *
          have c1d : wr.drew.cell? ⟨g, s, none⟩ = some (.int .u64 (x0 : Nat)) := c1
          have c2d : wr.drew.cell? (pa.add i) = some (.int .u64 (xa : Nat)) := c2
          have c3d : wr.drew.cell? (pb.add k) = some (.int .u64 (xb : Nat)) := c3
          have f1d : wr.drew.frozen? ⟨g, s, none⟩ = false := f1
          go_wp2_with fail
          go_still_tail 21, (by kernel_rfl)
          change wpList _ _ _ _ _ wr.drew
          go_wp2
          go_roundw
          case rel => first | exact ⟨k + 1, by omega, by go_num, FIN0.out⟩ | ((repeat apply Exists.intro); exact ⟨⟨k + 1, by omega, by go_num, FIN0.out⟩, rfl⟩)
          case measure => simp [intOf]; omega
        · obtain rfl : k = nb := by omega
          have FIN : Hid (TInvQ w g (tOut a b (i + 1)) wr) := by rw [tOut, Hlb.out]; exact ht
          clear ht
          go_wp2_with fail
          go_roundw
          case rel => first | exact ⟨i + 1, by omega, by go_num, FIN.out⟩ | ((repeat apply Exists.intro); exact ⟨⟨i + 1, by omega, by go_num, FIN.out⟩, rfl⟩)
          case measure => simp [intOf]; omega
    · obtain rfl : i = na := by omega
      have HT : Hid (TInvQ w g (tCar (tOut a b i) 0) wr) := ht
      have HOL : Hid ((tOut a b i).length = N) := by show _ = _; rw [tOut_length, Hla.out, Hlb.out, ← HN.out]
      have HTL : Hid (timesL a b = tCar (tOut a b i) (N - 1)) := by show _ = _; rw [timesL, Hla.out, Hlb.out, ← HN.out]
      clear ht
      generalize tOut a b i = o at *
      go_wp2_with fail
      go_loopw [8] (fun x wr => ∃ j : Nat, j ≤ N - 1 ∧ x = .int .i64 j ∧ TInvQ w g (tCar o j) wr) (fun x _ => N - (intOf x).toNat)
      case atStart => exact ⟨0, by omega, rfl, HT.out⟩
      case round =>
        clear HT
        obtain ⟨j, hj, rfl, ht⟩ := hrel
        obtain ⟨j1, hj1⟩ : ∃ j1, j1 = j + 1 := ⟨_, rfl⟩
        have e2 : (j : Int) + 1 = (j1 : Int) := by omega
        have e1 : IntKind.i64.wrap (j1 : Int) = (j1 : Int) := IntWalk.i64_in _ (by omega)
        by_cases hjN : j1 < N
        · have hlen : (tCar o j).length = N := by rw [tCar_length]; exact HOL.out
          have hlen2 : (tUp (tCar o j) j).length = N := by rw [tUp_length]; exact hlen
          have c1 := ht.cell j1 (by rw [hlen]; exact hjN)
          have c2 := ht.cell j (by rw [hlen]; omega)
          have f1 := ht.out.frozen j1
          have f2 := ht.out.frozen j
          have t2 := ht.drew.set hs1 j1 (mod64 ((tCar o j).getD j1 0 + mod64 ((tCar o j).getD j 0 / 65536)))
          have t2' : TInvQ w g (tUp (tCar o j) j) (wr.drew.setCell ⟨g, j1, none⟩ (.int .u64 ((mod64 ((tCar o j).getD j1 0 + mod64 ((tCar o j).getD j 0 / 65536)) : Nat) : Int))) := by have h := t2; rw [tUp, ← hj1]; exact h
          have c3 := t2'.cell j (by rw [hlen2]; omega)
          have f3 := t2'.out.frozen j
          have FIN := hide (t2'.set hs1 j (mod64 ((tUp (tCar o j) j).getD j 0 % 65536)))
          have m1 : IntKind.u64.wrap (((tCar o j).getD j 0 : Nat) / 65536 : Int) = (mod64 ((tCar o j).getD j 0 / 65536) : Nat) := by rw [IntKind.wrap_u64, mod64]; omega
          have m2 := wrap64a ((tCar o j).getD j1 0) (mod64 ((tCar o j).getD j 0 / 65536))
          have m3 : (((tUp (tCar o j) j).getD j 0 : Nat) : Int) % 65536 = (mod64 ((tUp (tCar o j) j).getD j 0 % 65536) : Nat) := by rw [mod64]; omega
          have hji : (j1 : Int) < (N : Int) := by omega
          have hji2 : (j : Int) < (N : Int) := by omega
          have FIN2 := hide (show TInvQ w g (tCar o (j + 1)) _ from FIN.out)
          rw [tUp_low] at c3 m3 FIN2
          have hne1 : ¬ (j = j1) := by omega
          have hne2 : ¬ (j1 = j) := by omega
          rw [← hj1] at FIN2
          have hj1N : j1 ≤ N - 1 := by omega
          have HJ1 := hide hj1
          clear ht t2 t2' hlen hlen2 FIN hj1
          generalize mod64 ((tCar o j).getD j 0 % 65536) = r4 at *
          generalize mod64 ((tCar o j).getD j1 0 + mod64 ((tCar o j).getD j 0 / 65536)) = r2 at *
          generalize mod64 ((tCar o j).getD j 0 / 65536) = r1 at *
          generalize (tCar o j).getD j1 0 = x1 at *
          generalize (tCar o j).getD j 0 = x0 at *
          have c1d : wr.drew.cell? ⟨g, j1, none⟩ = some (.int .u64 (x1 : Nat)) := c1
          have c2d : wr.drew.cell? ⟨g, j, none⟩ = some (.int .u64 (x0 : Nat)) := c2
          have f1d : wr.drew.frozen? ⟨g, j1, none⟩ = false := f1
          go_wp2_with fail
          go_still_tail 15, (by kernel_rfl)
          change wpList _ _ _ _ _ wr.drew
          go_wp2
          go_roundw
          case rel => first | exact ⟨j1, hj1N, rfl, FIN2.out⟩ | ((repeat apply Exists.intro); exact ⟨⟨j1, hj1N, rfl, FIN2.out⟩, rfl⟩)
          case measure => simp [intOf]; have := HJ1.out; omega
        · have hji : ¬ ((j1 : Int) < (N : Int)) := by omega
          have hjN2 : j = N - 1 := by omega
          clear hj1
          have hlen : (tCar o j).length = N := by rw [tCar_length]; exact HOL.out
          have hr := ht.out.rds
          rw [cellsQ_length, hlen] at hr
          have HR : Hid (Rds wr (some ⟨g, 0, none⟩) N (cellsQ (timesL a b))) := by rw [HTL.out, ← hjN2]; exact hr
          have hbel := ht.below
          clear ht hlen hr hjN2
          go_wp2_with fail
          go_ret
          exact ⟨g, rfl, HR.out, hbel⟩
end Go.Proofs.YtbicjcpdcopbhaaDoor
