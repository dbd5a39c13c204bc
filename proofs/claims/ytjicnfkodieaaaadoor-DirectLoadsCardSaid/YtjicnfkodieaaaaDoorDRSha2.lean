/-
  Rows of words of the document's sum: append that keeps what was there; how its numbers meet the program's.
-/
import Derived.Test.YtjicnfkodieaaaaDoorDRSha1
namespace Go.Proofs.YtjicnfkodieaaaaDoor
set_option linter.unusedVariables false
open Go.RowKit

theorem one_u32 : One Tryd.prog 23 35 (.int .u32 0) 4 := One.of (by kernel_rfl) (by kernel_rfl) rfl

/-- append onto a row of one's own: what was there can still be read where it was. -/
theorem append_keeps {P : Program} {t e : TypeId} {z : Value} {bytes : Nat} (o : One P t e z bytes) (ty : TypeId) (w : World) (base g n cap : Nat) (xs : List Value) (hown : w.ownsRow base e 1 (.slice (some ⟨g, 0, none⟩) n cap) n xs)
    (a : Addr) (m c : Nat) (news : List Value) (hl : news.length = m) (hc : ∀ j u, news[j]? = some u → w.cell? (a.add j) = some u) (h1 : ∀ u ∈ news, u.oneCell' = true) (hsm : (n + m) * bytes ≤ 140737488355328) (hsl : n + m ≤ 140737488355328)
    (v' : Value) (w' : World) (hrun : (Builtin.append_ #[t, t] ty #[.slice (some ⟨g, 0, none⟩) n cap, .slice (some a) m c]).run P w = .ok v' w') (j : Nat) (hj : j < n) : w'.cell? ⟨g, j, none⟩ = w.cell? ⟨g, j, none⟩ := by
  obtain ⟨i, hi, hz, hs, hby⟩ := o.info
  rcases hown.2 with ⟨h, _⟩ | ⟨g', cap', cur, hv, hbg, hg, hnc, hcm, hcs, htake⟩
  · cases h
  · injection hv with h1' h2' h3'
    injection h1' with h1'
    injection h1' with h1'
    subst h1' h3'
    by_cases hroom : n + m ≤ cap
    · have hfit : n * i.size + news.length ≤ cur.size := by rw [hl, hcs, hs]; omega
      have hr := run_append_room (P := P) w t ty e i o.slice hi g n cap cur hg a m c news (by rw [hl, hs, Nat.mul_one]) hc h1 hroom hfit
      rw [hr] at hrun
      injection hrun with _ hw
      rw [← hw, cell_of_row _ g j _ e _ (setRow_heap w g cur _ e _ hg), cell_of_row w g j cur e _ hg, hs, Nat.mul_one]
      have hjc : j < cur.toList.length := by rw [Array.length_toList, hcs]; omega
      simp only [List.append_assoc, List.getElem?_toArray]
      rw [List.getElem?_append_left (by rw [List.length_take]; omega), List.getElem?_take, if_pos hj]
      simp
    · have holds : ∀ k u, xs[k]? = some u → w.cell? ((⟨g, 0, none⟩ : Addr).add k) = some u := hown.cells (g := g) rfl
      have hr := run_append_grow (P := P) w t ty e i z o.slice hi hz ⟨g, 0, none⟩ n cap xs (by rw [hown.1, hs]) holds a m c news (by rw [hl, hs, Nat.mul_one]) hc (by omega) (by omega) (growslice_fits (by omega) (by rw [hby]; exact hsm))
      rw [hr] at hrun
      injection hrun with _ hw
      rw [← hw]
      have hlt : g < w.heap.size := (Array.getElem?_eq_some_iff.1 hg).1
      have := (Frm.alloc w.drew (.cells (xs.toArray ++ news.toArray ++ Builtin.zeroCells z.cells (grownCap w (n + m) cap e - (n + m))) e) (fun _ => False)).block g hlt (fun h => h)
      simp only [World.cell?, this]
      rfl

/-- append of one word onto a row of one's own, in a region. -/
theorem step_app32 {ops : Array Oper} {op : Oper} {a : Act} {K : Act → World → Prop} {Q : Exit → Act → World → Prop} {E : Prop} (hw : Region.wanted op (yielded ops a.tmps) = true) (s x : Operand)
    (ho : op.op = .call { callee := .builtin .append, args := #[s, x], argTypes := #[23, 23] }) (w : World) (base g n cap : Nat) (xs : List Value) (hs : a.eval s = .slice (some ⟨g, 0, none⟩) n cap) (hown : w.ownsRow base 35 1 (.slice (some ⟨g, 0, none⟩) n cap) n xs)
    (ad : Addr) (m c : Nat) (news : List Value) (hx : a.eval x = .slice (some ad) m c) (hl : news.length = m) (hc : ∀ j u, news[j]? = some u → w.cell? (ad.add j) = some u) (h1 : ∀ u ∈ news, u.oneCell' = true) (hsm : (n + m) * 4 ≤ 140737488355328) (hb : base ≤ w.heap.size)
    (h : ∀ A' c' w', w'.ownsRow base 35 1 (.slice A' (n + m) c') (n + m) (xs ++ news) → w.grownBy w' (some g) → (∀ j, j < n → w'.cell? ⟨g, j, none⟩ = w.cell? ⟨g, j, none⟩) → K (a.put op.dst (.slice A' (n + m) c')) w') :
    if Region.wanted op (yielded ops a.tmps) = true then Oper.wp Tryd.prog op a w K Q else E := by
  rw [if_pos hw]
  have hr : Rds w (some ad) m news := ⟨hl, fun _ => ⟨ad, rfl, hc⟩⟩
  obtain ⟨v', w', hrun, h2, h3, h4⟩ := run_app one_u32 op.type w base (.slice (some ⟨g, 0, none⟩) n cap) n xs hown (some ad) m c news hr h1 hsm (by omega) hb
  have hk := append_keeps one_u32 op.type w base g n cap xs hown ad m c news hl hc h1 hsm (by omega) v' w' hrun
  obtain ⟨A', c', rfl⟩ := own_form h2
  unfold Oper.wp execOp
  simp only [ho, resolve, invoke, builtin, Sem.run_bind, Sem.run_pure, Result.andThen_ok, List.map_toArray, List.map_cons, List.map_nil, hs, hx, hrun]
  exact h A' c' w' h2 h3 hk

theorem ad_swap (a b c : Nat) : ad (ad a b) c = ad (ad a c) b := by unfold ad; omega
theorem plus_swap (a r f : List Nat) : plus (plus a r) f = plus (plus a f) r := by
  induction a generalizing r f with
  | nil => simp [plus]
  | cons x a ih =>
    cases r with
    | nil => cases f <;> simp [plus]
    | cons y r =>
      cases f with
      | nil => simp [plus]
      | cons z f =>
        have := ih r f
        simp only [plus, List.zipWith_cons_cons] at this ⊢
        rw [this, ad_swap]
/-- H behind q blocks. -/
def hqL (p : List UInt8) (q : Nat) : List Nat := plus (addedN p q) firstL
theorem hqL_zero (p : List UInt8) : hqL p 0 = firstL := by unfold hqL addedN; decide
theorem hqL_succ (p : List UInt8) (q : Nat) : hqL p (q + 1) = plus (hqL p q) (rounds (schedN ((p.drop (64 * q)).take 64)) 64 (S8.of (hqL p q))).list := by
  unfold hqL
  rw [addedN, addB, plus_swap]
theorem hqL_length (p : List UInt8) (q : Nat) : (hqL p q).length = 8 := by unfold hqL; rw [plus_length _ _ (by rw [addedN_length]; rfl), addedN_length]
theorem hqL_ws (p : List UInt8) (q : Nat) : Ws (hqL p q) := plus_ws _ _
theorem words_at (b : List UInt8) (k : Nat) (h : k < 16) : (words b).take (k + 1) = (words b).take k ++ [num ((b.drop (4 * k)).take 4)] := by
  rw [List.take_succ_eq_append_getElem (by rw [words_length]; exact h)]
  simp [words]
theorem sched_take (b : List UInt8) (k : Nat) (h1 : 16 ≤ k) (h2 : k < 64) : (schedN b).take (k + 1) = (schedN b).take k ++ [wNext (schedN b) k] := by
  rw [List.take_add_one, schedN_at b k h1 h2]
  rfl
theorem sched_take16 (b : List UInt8) : (schedN b).take 16 = words b := by
  apply List.ext_getElem?
  intro i
  rw [List.getElem?_take]
  split
  · exact schedN_low b i (by assumption)
  · rw [List.getElem?_eq_none (by rw [words_length]; omega)]
end Go.Proofs.YtjicnfkodieaaaaDoor
