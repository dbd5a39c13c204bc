/-
  What the laws of stage 11 share: rows of hops cut, loads of a hop's parts, regions whose ends meet again, packets peeled in a row.
-/
import Derived.Test.YtoiiiflnnhkjbaaGreatDoorOnSh
import Derived.Test.YtoiiiflnnhkjbaaGreatDoorOnH
import Derived.Test.YtoiiiflnnhkjbaaGreatDoorOSlD
namespace Go.Proofs.YtoiiiflnnhkjbaaGreatDoor
set_option linter.unusedVariables false
set_option linter.unusedSimpArgs false
open Go.RowKit

theorem merge2 {R P : Nat → Nat → World → Prop} {G : Prop} (walk : Hid (∀ a b W, R a b W → P a b W) → G) (rest : ∀ a b W, R a b W → P a b W) : G := walk rest
theorem merge1 {R P : Nat → World → Prop} {G : Prop} (walk : Hid (∀ a W, R a W → P a W) → G) (rest : ∀ a W, R a W → P a W) : G := walk rest
theorem OAt.perm {w W : World} {l l' : List (Nat × TypeId × List Value)} (h : OAt w l W) (p : l.Perm l') : OAt w l' W :=
  ⟨⟨fun x hx => h.at0.has x (p.mem_iff.2 hx), fun x hx => h.at0.low x (p.mem_iff.2 hx), (p.map _).nodup_iff.1 h.at0.nd, h.at0.bel⟩, h.tb, h.four⟩
theorem HRow.take {w : World} {A : Option Addr} {n m : Nat} {hs : List HopL} (h : HRow w A n hs) (hm : m ≤ n) : HRow w A m (hs.take m) := by
  refine ⟨by rw [List.length_take, h.len]; omega, fun x hx => h.ok x (List.mem_of_mem_take hx), fun hp => ?_⟩
  obtain ⟨p, rfl, hc⟩ := h.at' (by omega)
  refine ⟨p, rfl, fun k hk q v hv => hc k (by omega) q v ?_⟩
  rw [List.getD_eq_getElem?_getD, List.getElem?_take, if_pos hk, ← List.getD_eq_getElem?_getD] at hv
  exact hv
/-- An aggregate at an address, by its cells. -/
theorem held_loadC {ty : TypeId} {n : Nat} (hA : Agg Tryz.prog ty n) {op : Oper} {a : Act} {w : World} (x : Operand) (ho : op.op = .load ty x)
    (ad : Addr) (hx : a.eval x = .pointer (some ad)) (cs : List Value) (hl : cs.length = n) (hc : ∀ q u, cs[q]? = some u → w.cell? (ad.add q) = some u) : (execOp a.eval op).run Tryz.prog w = .ok (.value (.agg cs.toArray)) w := by
  obtain ⟨⟨d, hu, hd⟩, hi⟩ := hA
  have h1 : (loadCells ad cs.length).run Tryz.prog w = .ok cs.toArray w := run_loadCells_list (P := Tryz.prog) w ad cs (fun j v hv => hc j v hv)
  have h2 : (loadVar ty ad).run Tryz.prog w = .ok (.agg cs.toArray) w := by
    cases hq : Tryz.prog.info? ty with
    | none => simp [hq] at hi
    | some i =>
      have hs : i.size = n := by simpa [hq] using hi
      have hagg : (isAgg ty).run Tryz.prog w = .ok true w := by
        unfold isAgg
        rw [Sem.run_bind, run_underlying hu w]
        cases d <;> simp_all [isAggD]
      rw [hl] at h1
      simp [loadVar, Sem.run_bind, hagg, sizeOf, typeInfo, hq, hs, h1]
  unfold execOp
  simp only [ho, hx, Instr.loadAt, Instr.sureAddr, Sem.run_bind, Sem.run_pure, Result.andThen_ok, h2]
/-- A hop's key, seen at its place. -/
theorem HRow.key {w : World} {n : Nat} {hs : List HopL} {p : Addr} (h : HRow w (some p) n hs) {k : Nat} (hk : k < n) : ∀ q u, (cellsB (hs.getD k hop0).key)[q]? = some u → w.cell? (((p.add (k * 54)).add 2).add q) = some u := by
  intro q u hu
  have ho := h.hop hk
  rw [← hopC_key ho, List.getElem?_take] at hu
  split at hu
  · rw [List.getElem?_drop] at hu
    rw [add_add]
    exact h.cell hk (2 + q) u hu
  · cases hu
theorem sizeHop : (Tryz.prog.info? 63).map (·.size) = some 54 := by kernel_rfl
theorem cut_hops (A : Option Addr) (n c j : Nat) (hj : j ≤ c) (w : World) :
    Sem.run Tryz.prog (Instr.sliceAt 22 (.slice A n c) none (some (.int .i64 (j : Int))) none) w = .ok (.slice A j c) w := by
  have hinfo := sizeHop
  have h0 : A.map (·.add 0) = A := by cases A <;> simp [Addr.add]
  cases hq : Tryz.prog.info? 63 with
  | none => rw [hq] at hinfo; cases hinfo
  | some d =>
    rw [hq] at hinfo
    have hs : d.size = 54 := by simpa using hinfo
    simp [Instr.sliceAt, Instr.slice, run_underlying Tryz.underlying22, Instr.sliceBounds, Instr.sliceBound, asIntOf, sizeOf, typeInfo, hq, hj, h0]

theorem rightH_iff {hs : List HopL} (h : rightH hs = true) : 1 ≤ hs.length ∧ hs.length ≤ 5 ∧ ∀ x ∈ hs, x.lo ≤ x.hi := by
  unfold rightH at h
  rw [Bool.and_eq_true, decide_eq_true_eq, List.all_eq_true] at h
  exact ⟨h.1.1, h.1.2, fun x hx => by simpa using h.2 x hx⟩
theorem built_right {hs : List HopL} (h : rightH hs = true) (box : Nat) (body : List UInt8) : buildP hs box body = pktAt hs box body 0 ∧ buildE hs = 0 := by
  unfold buildP buildE pktAt
  rw [if_pos h, if_pos h, List.drop_zero]
  exact ⟨rfl, rfl⟩
theorem built_wrong {hs : List HopL} (h : rightH hs = false) (box : Nat) (body : List UInt8) : buildP hs box body = pkt0 ∧ buildE hs = 1 := by
  unfold buildP buildE
  rw [if_neg (by simp [h]), if_neg (by simp [h])]
  exact ⟨rfl, rfl⟩
section
variable {hs : List HopL} (hk : ∀ h ∈ hs, h.ok) {box : Nat} (hx : box < 65536)
include hk hx
theorem bldD_ok {body : List UInt8} (hb : body.length = 256) (i : Nat) : (bldR (initB (leftH hs hs.length) body box) (hs.drop i)).1.ok ∧ (bldR (initB (leftH hs hs.length) body box) (hs.drop i)).2.ok :=
  bldR_ok (initB_ok (leftH_length _ _) hb hx).1 (initB_ok (leftH_length _ _) hb hx).2 (fun h hh => hk h (List.mem_of_mem_drop hh))
theorem pktAt_ok {body : List UInt8} (hb : body.length = 256) (i : Nat) : (pktAt hs box body i).ok := (bldD_ok hk hx hb i).1
theorem slotAt_ok {body : List UInt8} (hb : body.length = 256) {i : Nat} (hi : i < hs.length) : (slotAt hs box body i).ok :=
  inSlot_ok (hk _ (hop_mem hi)) (bldD_ok hk hx hb (i + 1)).2
end
theorem bldR_nil (x : Pkt × Slot) : (bldR x []).1 = x.1 := rfl
theorem initB_body (hd body : List UInt8) (box : Nat) : (initB hd body box).1.body = body := rfl
theorem pktAt_last (hs : List HopL) (box : Nat) (body : List UInt8) : (pktAt hs box body hs.length).body = body := by
  unfold pktAt
  rw [List.drop_length, bldR_nil, initB_body]
end Go.Proofs.YtoiiiflnnhkjbaaGreatDoor
