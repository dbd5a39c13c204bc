/-
  A heap of int and the document's own beside each other.
-/
import Derived.Test.YtjpmicjlbkdcbaaHrB
namespace Go.Proofs.Ytjpmicjlbkdcbaa
set_option linter.unusedVariables false
set_option linter.unusedSimpArgs false
open Go.RowKit

section
variable {w0 w w' : World} {B g ga gb : Nat} {R : List Th} {q qa qb : Qu} {ra : Option Nat}
theorem RAt.kept (h : RAt w B g R q) (k : hI.Kept w w') : RAt w' B g R q := by
  obtain ⟨h1, A, n, c, hb, ho, hl⟩ := h
  refine ⟨h1, A, n, c, k _ _ _ (by decide) (by decide) hb, ?_, hl⟩
  rcases ho.row with ⟨rfl, rfl, rfl, rfl⟩ | ⟨r, rfl, hB, rest, hr, hrest⟩
  · exact TOwn.nil _ _
  · exact RowB.own ⟨rest, k _ _ _ (by decide) (by decide) hr, hrest⟩ hB ho.len
theorem heap_frmR (h : hI.HeapAt w B ga ra qa) (hR : RAt w B gb R qb) (f : Frm (fun k => k = gb) w w') : hI.HeapAt w' B ga ra qa := by
  obtain ⟨h1, A, n, c, hb, ho, hl⟩ := hR
  obtain ⟨hB, A', n', c', L, hb', ho', hl', e, hk⟩ := id h
  exact h.frm f (fun e' => hb'.ne hb (by decide) e') (fun k hk e' => ho'.ne hb (by decide) (by rw [e, hk, e']))

/-- Both, their blocks from the law's beginning on. -/
def T2 (w0 w : World) (ga gb : Nat) (qa qb : Qu) : Prop := Below w0.heap.size w0 w ∧ (∃ ra, hI.HeapAt w w0.heap.size ga ra qa) ∧ ∃ R, RAt w w0.heap.size gb R qb
theorem T2.frm0 (h : T2 w0 w ga gb qa qb) (f : Frm (fun _ => False) w w') : T2 w0 w' ga gb qa qb := by
  obtain ⟨h1, ⟨ra, ha⟩, R, hR⟩ := h
  exact ⟨below_frm h1 f h1.size (fun _ h => h.elim), ⟨ra, ha.frm0 f⟩, R, hR.frm0 f⟩
theorem T2.new (h : hI.LH w0 w ga qa) (m : Int) : Calls Try.prog 11 #[.int .i64 m] w fun e w' => ∃ gb, e = .returned (.pointer (some ⟨gb, 0, none⟩)) ∧ T2 w0 w' ga gb qa (newQ m) := by
  obtain ⟨⟨ra, h1⟩, h2⟩ := h
  refine (rnew_any m w).mono ?_
  rintro e w' ⟨gb, rfl, h3, f⟩
  exact ⟨gb, rfl, below_frm h2 f h2.size (fun _ h => h.elim), ⟨ra, h1.frm0 f⟩, [], h3.base h2.size⟩
theorem T2.push1 (h : T2 w0 w ga gb qa qb) (t : Nat) (x : Int) (ht : t < 18446744073709551616) (hs : qa.S.length ≤ 50000) (hn : qa.num ≤ 50000) : Calls Try.prog 12 #[.pointer (some ⟨ga, 0, none⟩), .int .u64 (t : Int), .int .i64 x] w fun e w' => e = .returned (.tuple (hI.pushV qa)) ∧ T2 w0 w' ga gb (qa.push t x) qb ∧ hI.Kept w w' := by
  obtain ⟨h1, ⟨ra, ha⟩, R, hR⟩ := h
  refine (hI.push_any _ ga ra qa t x w ha ht hs hn).mono ?_
  rintro e w' ⟨rfl, rw', h3, hr, f⟩
  have k := ha.kept f
  exact ⟨rfl, ⟨below_frm h1 f h1.size (hI.frm_rw ha), ⟨rw', h3⟩, R, hR.kept k⟩, k⟩
theorem T2.pop1 (h : T2 w0 w ga gb qa qb) (now : Nat) (hs : qa.S.length ≤ 50000) : Calls Try.prog 14 #[.pointer (some ⟨ga, 0, none⟩), .int .u64 (now : Int)] w fun e w' => e = .returned (.tuple (hI.popV qa now)) ∧ T2 w0 w' ga gb (qa.pop now) qb ∧ hI.Kept w w' := by
  obtain ⟨h1, ⟨ra, ha⟩, R, hR⟩ := h
  refine (hI.pop_any _ ga ra qa now w ha hs).mono ?_
  rintro e w' ⟨rfl, h3, f⟩
  have k := ha.kept f
  exact ⟨rfl, ⟨below_frm h1 f h1.size (hI.frm_rw ha), ⟨ra, h3⟩, R, hR.kept k⟩, k⟩
theorem RAt.length (h : RAt w B g R q) : R.length = q.S.length := by obtain ⟨h1, A, n, c, hb, ho, hl, _⟩ := h; exact hl.length
theorem T2.push2 (h : T2 w0 w ga gb qa qb) (t : Nat) (x : Int) (ht : t < 18446744073709551616) (hs : qb.S.length ≤ 50000) (hn : qb.num ≤ 50000) : Calls Try.prog 13 #[.pointer (some ⟨gb, 0, none⟩), .int .u64 (t : Int), .int .i64 x] w fun e w' => e = .returned (.tuple (hI.pushV qb)) ∧ T2 w0 w' ga gb qa (qb.push t x) := by
  obtain ⟨h1, ⟨ra, ha⟩, R, hR⟩ := h
  refine (rpush_any _ gb R qb t x w hR ht (by rw [hR.length]; exact hs) hn).mono ?_
  rintro e w' ⟨rfl, R', h3, f⟩
  exact ⟨rfl, below_frm h1 f h1.size (fun k e => e ▸ hR.lt.1), ⟨ra, heap_frmR ha hR f⟩, R', h3⟩
theorem T2.pop2 (h : T2 w0 w ga gb qa qb) (now : Nat) (hs : qb.S.length ≤ 50000) : Calls Try.prog 15 #[.pointer (some ⟨gb, 0, none⟩), .int .u64 (now : Int)] w fun e w' => e = .returned (.tuple (hI.popV qb now)) ∧ T2 w0 w' ga gb qa (qb.pop now) := by
  obtain ⟨h1, ⟨ra, ha⟩, R, hR⟩ := h
  refine (rpop_any _ gb R qb now w hR (by rw [hR.length]; exact hs)).mono ?_
  rintro e w' ⟨rfl, R', h3, f⟩
  exact ⟨rfl, below_frm h1 f h1.size (fun k e => e ▸ hR.lt.1), ⟨ra, heap_frmR ha hR f⟩, R', h3⟩
theorem T2.next (h : T2 w0 w ga gb qa qb) : Calls Try.prog 16 #[.pointer (some ⟨ga, 0, none⟩)] w fun e w' => e = .returned (.tuple (hI.nextV qa)) ∧ w' = w := by
  obtain ⟨h1, ⟨ra, ha⟩, R, hR⟩ := h
  exact hI.next_any _ ga ra qa w ha
theorem T2.len (h : T2 w0 w ga gb qa qb) (j : Nat) : Calls Try.prog 18 #[.pointer (some ⟨ga, 0, none⟩)] (w.drewN j) fun e w' => e = .returned (.int .i64 (qa.S.length : Int)) ∧ w' = w.drewN j := by
  obtain ⟨h1, ⟨ra, ha⟩, R, hR⟩ := h
  exact hI.lens_any _ ga ra qa _ (ha.drewN j)
theorem T2.first_nil (h : T2 w0 w ga gb qa qb) (hS : qb.S = []) : Calls Try.prog 17 #[.pointer (some ⟨gb, 0, none⟩)] w fun e w' => e = .returned (.int .i64 (-1)) ∧ T2 w0 w' ga gb qa qb ∧ ∃ A c, w'.cell? ⟨gb, 1, none⟩ = some (.slice A 0 c) := by
  have h0 := h
  obtain ⟨h1, ⟨ra, ha⟩, R, hR⟩ := h
  have hlen := hR.length
  rw [hS] at hlen
  obtain rfl : R = [] := List.eq_nil_of_length_eq_zero hlen
  refine (rfirst_any _ gb [] qb w hR (by simp)).mono ?_
  rintro e w' ⟨rfl, f⟩
  obtain ⟨_, A, n, c, hb, ho, hl, _⟩ := hR.frm0 f
  obtain rfl : n = 0 := ho.len.symm
  exact ⟨rfl, h0.frm0 f, A, c, hb.cell 1⟩
theorem T2.first_cons (h : T2 w0 w ga gb qa qb) {s : Th} {S : List Th} (hS : qb.S = s :: S) (hs : qb.S.length ≤ 50000) : Calls Try.prog 17 #[.pointer (some ⟨gb, 0, none⟩)] w fun e w' => ∃ k r c : Nat, e = .returned (.int .i64 (k : Int)) ∧ T2 w0 w' ga gb qa qb ∧ k < qb.S.length ∧
    w'.cell? ⟨gb, 1, none⟩ = some (.slice (some ⟨r, 0, none⟩) qb.S.length c) ∧ w'.cell? ⟨r, k * 3, none⟩ = some (.int .u64 (s.t : Int)) := by
  have h0 := h
  obtain ⟨h1, ⟨ra, ha⟩, R, hR⟩ := h
  refine (rfirst_any _ gb R qb w hR (by rw [hR.length]; exact hs)).mono ?_
  rintro e w' ⟨rfl, f⟩
  have hlen := hR.length
  obtain ⟨_, A, n, c, hb, ho, hl, _⟩ := hR.frm0 f
  rw [hS] at hl
  obtain ⟨k, hk, hkR, hks⟩ := hl.some
  rcases ho.row with ⟨_, h0, _, _⟩ | ⟨r, rfl, hBr, hr⟩
  · have := ho.len; omega
  · have hn := ho.len
    obtain rfl : n = qb.S.length := by omega
    have hc := (hr.cells k hkR).1
    rw [hks] at hc
    exact ⟨k, r, c, by rw [hk]; rfl, h0.frm0 f, by omega, hb.cell 1, hc⟩
end
end Go.Proofs.Ytjpmicjlbkdcbaa
