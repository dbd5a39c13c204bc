/-
  A region that draws its order and whose last operations turn what others of it read: what is asked of the world is asked behind each operation but those.
-/
import Derived.Test.YtdilfiojfjgejaaRows
import Derived.WalkKit
import Derived.OrdersHeld
import Derived.Deep.RegionHeld
import Derived.Deep.RegionHeld3
namespace Go.Proofs.Ytdilfiojfjgejaa
set_option linter.unusedVariables false
set_option linter.unusedSimpArgs false

section
variable {P : Program} {ops : Array Oper} {Q : Exit → Act → World → Prop} {md : Region.Mode} {S : World → Prop} {x : List Nat}

/-- Any order from here on; S behind each but those of x. -/
def anyX (P : Program) (md : Region.Mode) (ops : Array Oper) (Q : Exit → Act → World → Prop) (S : World → Prop) (x : List Nat) : Nat → Array Bool → Act → World → Prop
  | 0, l, a, w => Region.ready md ops l = [] ∧ Q .normal a w
  | n + 1, l, a, w => (Region.ready md ops l = [] → Q .normal a w) ∧ ∀ i ∈ Region.ready md ops l, wpOp P ops Q i (fun a' w' => (x.contains i = false → S w') ∧ anyX P md ops Q S x n (l.setIfInBounds i true) a' w') a w
theorem any_of_x : ∀ (n : Nat) (l : Array Bool) (a : Act) (w : World), anyX P md ops Q S x n l a w → wpAny P md ops Q n l a w
  | 0, _, _, _, h => h
  | n + 1, _, _, _, h => ⟨h.1, fun i hi => wpOp_mono (fun a' w' k => any_of_x n _ a' w' k.2) (h.2 i hi)⟩

/-- What has come up has behind it all that it waits for. -/
def Closed (md : Region.Mode) (ops : Array Oper) (l : Array Bool) : Prop := ∀ k o, ops[k]? = some o → l.getD k true = true → ∀ e ∈ o.after, Region.binds md e = true → l.getD e.on false = true
def closedB (md : Region.Mode) (ops : Array Oper) (l : Array Bool) : Bool := (List.range ops.size).all fun k => !(l.getD k true) || (match ops[k]? with | some o => o.after.all (fun e => !(Region.binds md e) || l.getD e.on false) | none => true)
theorem closed_of {l : Array Bool} (h : closedB md ops l = true) : Closed md ops l := by
  intro k o ho hk e he hb
  have h1 := List.all_eq_true.1 h k (List.mem_range.2 (Array.getElem?_eq_some_iff.1 ho).1)
  rw [hk, ho] at h1
  simp only [Bool.not_true, Bool.false_or] at h1
  have h2 := Array.all_eq_true_iff_forall_mem.1 h1 e he
  rw [hb] at h2
  simpa using h2
theorem getD_false {l : Array Bool} {k : Nat} (h : l.getD k false = true) : l.getD k true = true := by
  rcases Nat.lt_or_ge k l.size with h' | h'
  · simp [h'] at h ⊢; exact h
  · simp [Array.getElem?_eq_none h'] at h
theorem Closed.set {l : Array Bool} {j : Nat} (h : Closed md ops l) (hj : j ∈ Region.ready md ops l) : Closed md ops (l.setIfInBounds j true) := by
  obtain ⟨h0, oj, hoj, hall⟩ := mem_ready.1 hj
  have up : ∀ k, l.getD k false = true → (l.setIfInBounds j true).getD k false = true := by
    intro k hk
    by_cases e : j = k
    · subst e
      rcases Nat.lt_or_ge j l.size with h' | h'
      · simp [h']
      · simp [Array.getElem?_eq_none h'] at hk
    · rw [getD_set_ne false e]
      exact hk
  intro k o ho hk e he hb
  by_cases e' : j = k
  · subst e'
    rw [hoj] at ho
    injection ho with ho
    subst ho
    exact up _ (hall e he hb)
  · rw [getD_set_ne true e'] at hk
    exact up _ (h k o ho hk e he hb)
/-- Each waits for the one behind it. -/
def pathB (md : Region.Mode) (ops : Array Oper) : List Nat → Bool
  | k :: j :: l => (match ops[k]? with | some o => o.after.any (fun e => Region.binds md e && e.on == j) | none => false) && pathB md ops (j :: l)
  | _ => true
theorem path_step {k j : Nat} {l : List Nat} (h : pathB md ops (k :: j :: l) = true) : (∃ o e, ops[k]? = some o ∧ e ∈ o.after ∧ Region.binds md e = true ∧ e.on = j) ∧ pathB md ops (j :: l) = true := by
  unfold pathB at h
  rw [Bool.and_eq_true] at h
  refine ⟨?_, h.2⟩
  have h1 := h.1
  cases ho : ops[k]? with
  | none => rw [ho] at h1; cases h1
  | some o =>
    rw [ho] at h1
    obtain ⟨i, hi, h2⟩ := Array.any_eq_true.1 h1
    simp only [Bool.and_eq_true, beq_iff_eq] at h2
    exact ⟨o, o.after[i], rfl, Array.getElem_mem hi, h2.1, h2.2⟩
theorem path_up {l : Array Bool} (hc : Closed md ops l) : ∀ (p : List Nat) (k : Nat), pathB md ops (k :: p) = true → l.getD k true = true → l.getD ((k :: p).getLastD 0) true = true
  | [], k, _, hk => hk
  | j :: p, k, h, hk => by
    obtain ⟨⟨o, e, ho, he, hb, hj⟩, h2⟩ := path_step h
    have h3 := hc k o ho hk e he hb
    rw [hj] at h3
    exact path_up hc p j h2 (getD_false h3)
/-- Who waits, over others, for one that has not come up does not come up. -/
theorem not_ready {l : Array Bool} (hc : Closed md ops l) {p : List Nat} {k j i : Nat} (h : pathB md ops (k :: j :: p) = true) (hi : (j :: p).getLastD 0 = i) (hn : l.getD i true = false) : k ∉ Region.ready md ops l := by
  intro hx
  obtain ⟨h0, ox, hox, hall⟩ := mem_ready.1 hx
  obtain ⟨⟨o, e, ho, he, hb, hj⟩, h2⟩ := path_step h
  rw [hox] at ho
  injection ho with ho
  subst ho
  have h3 := hall e he hb
  rw [hj] at h3
  have h4 := path_up hc p j h2 (getD_false h3)
  rw [hi, hn] at h4
  cases h4
theorem none_ready {l : Array Bool} (hc : Closed md ops l) {i : Nat} (hn : l.getD i true = false) : ∀ (p : List Nat), pathB md ops p = true → p.getLastD 0 = i → ∀ k ∈ p, k ≠ i → k ∉ Region.ready md ops l
  | [], _, _, k, hk, _ => by cases hk
  | [j], _, hl, k, hk, hne => by
    obtain rfl : k = j := by simpa using hk
    exact absurd hl hne
  | m :: j :: p, h, hl, k, hk, hne => by
    have hl2 : (j :: p).getLastD 0 = i := by
      rw [← hl]
      simp [List.getLastD]
    rcases List.mem_cons.1 hk with rfl | hk
    · exact not_ready hc h hl2 hn
    · exact none_ready hc hn (j :: p) (path_step h).2 hl2 k hk hne
theorem anyX_first {i : Nat} {oi : Oper} {v : Value} (hi : ops[i]? = some oi) (hsel : ∀ (j : Nat) (o : Oper) cs b, ops[j]? = some o → o.op ≠ .select cs b) (hQ : ∀ c a w, Q (.panic c) (a.put oi.dst v) w → Q (.panic c) a w)
    {p : List Nat} (hp : pathB md ops p = true) (hl : p.getLastD 0 = i) (hxs : ∀ k ∈ x, k ∈ p ∧ k ≠ i) :
    ∀ (n : Nat) (l : Array Bool) (a : Act) (w : World), (∀ j oj, ops[j]? = some oj → j ≠ i → l.getD j true = false → (∀ e ∈ oj.after, Region.binds md e = true → e.on ≠ i) → oi.apart ops oj = true) →
      i ∈ Region.ready md ops l → Closed md ops l → YieldsIf P ops S oi v a → S w → anyX P md ops Q S x n (l.setIfInBounds i true) (a.put oi.dst v) w → anyX P md ops Q S x (n + 1) l a w := by
  intro n
  induction n with
  | zero =>
    intro l a w _ hr _ hy hS H
    refine ⟨fun h => (by rw [h] at hr; cases hr), fun j hj => ?_⟩
    by_cases e : j = i
    · subst e; exact hy.wpOp hi hS ⟨fun _ => hS, H⟩
    · have k := ready_mono hj e
      rw [H.1] at k
      cases k
  | succ n ih =>
    intro l a w free hr hc hy hS H
    refine ⟨fun h => (by rw [h] at hr; cases hr), fun j hj => ?_⟩
    by_cases e : j = i
    · subst e; exact hy.wpOp hi hS ⟨fun _ => hS, H⟩
    · have hjx : x.contains j = false := by
        cases hcj : x.contains j with
        | false => rfl
        | true =>
          have hm := hxs j (by simpa using hcj)
          exact absurd hj (none_ready hc (mem_ready.1 hr).1 p hp hl j hm.1 hm.2)
      obtain ⟨hun, oj, hoj, hall⟩ := mem_ready.1 hj
      have hno : ∀ e ∈ oj.after, Region.binds md e = true → e.on ≠ i := fun d hd hb he => by
        have k1 := getD_false (hall d hd hb)
        rw [he, (mem_ready.1 hr).1] at k1
        cases k1
      have k2 := wpOp_putIf hoj (free j oj hoj e hun hno) (fun cs b => hsel i oi cs b hi) (fun cs b => hsel j oj cs b hoj) hQ hy (H.2 j (ready_mono hj e))
      have free2 : ∀ k ok, ops[k]? = some ok → k ≠ i → (l.setIfInBounds j true).getD k true = false → (∀ d ∈ ok.after, Region.binds md d = true → d.on ≠ i) → oi.apart ops ok = true := fun k ok hk hki hu hn => by
        by_cases f : j = k
        · subst f; exact free j ok hk hki hun hn
        · rw [getD_set_ne true f] at hu; exact free k ok hk hki hu hn
      refine wpOp_mono (fun a' w' k3 => ⟨k3.2.1, ih _ a' w' free2 (ready_mono hr (Ne.symm e)) (hc.set hj) k3.1 (k3.2.1 hjx) ?_⟩) k2
      rw [Array.setIfInBounds_comm _ _ e]
      exact k3.2.2
/-- Number i first. The path says that those of x wait for it. -/
theorem anyX_take (p : List Nat) {i : Nat} {oi : Oper} {v : Value} {n : Nat} {l : Array Bool} {a : Act} {w : World} (hi : ops[i]? = some oi)
    (hs : Region.noSelect ops = true) (hf : Region.free md ops l i = true) (hr : (Region.ready md ops l).contains i = true) (hp : pathB md ops p = true) (hl : (p.getLastD 0 == i) = true) (hxs : (x.all fun k => p.contains k && !(k == i)) = true) (hc : closedB md ops l = true)
    (hQ : ∀ c a w, Q (.panic c) (a.put oi.dst v) w → Q (.panic c) a w) (hy : YieldsIf P ops S oi v a) (hS : S w)
    (h : anyX P md ops Q S x n (l.setIfInBounds i true) (a.put oi.dst v) w) : anyX P md ops Q S x (n + 1) l a w :=
  anyX_first hi (Region.noSelect_spec hs) hQ hp (by simpa using hl) (fun k hk => by
    have h1 := List.all_eq_true.1 hxs k hk
    simp only [Bool.and_eq_true, Bool.not_eq_true', beq_eq_false_iff_ne] at h1
    exact ⟨by simpa using h1.1, h1.2⟩) n l a w (Region.free_spec hi hf) (by simpa using hr) (closed_of hc) hy hS h
def AllX (P : Program) (md : Region.Mode) (ops : Array Oper) (Q : Exit → Act → World → Prop) (S : World → Prop) (x : List Nat) (n : Nat) (l : Array Bool) (a : Act) (w : World) (rs : List Nat) : Prop :=
  ∀ i ∈ rs, wpOp P ops Q i (fun a' w' => (x.contains i = false → S w') ∧ anyX P md ops Q S x n (l.setIfInBounds i true) a' w') a w
theorem AllX.nil {n : Nat} {l : Array Bool} {a : Act} {w : World} : AllX P md ops Q S x n l a w [] := fun _ h => by cases h
theorem AllX.cons {n : Nat} {l : Array Bool} {a : Act} {w : World} {i : Nat} {o : Oper} {rs : List Nat} (hx : x.contains i = false) (ho : ops[i]? = some o)
    (h : ∀ K' : Act → World → Prop, Shut (∀ a w, S w → (S w → anyX P md ops Q S x n (l.setIfInBounds i true) a w) → K' a w) → if Region.wanted o (yielded ops a.tmps) = true then Oper.wp P o a w K' Q else K' (a.put o.dst undef) w)
    (hs : AllX P md ops Q S x n l a w rs) : AllX P md ops Q S x n l a w (i :: rs) := fun j hj => by
  rcases List.mem_cons.1 hj with rfl | hj
  · exact wpOp_step ho (fun K' hK => h K' (fun a w hS hW => hK a w ⟨fun _ => hS, hW hS⟩))
  · exact hs j hj
/-- One of x: behind it nothing is asked. -/
theorem AllX.last {n : Nat} {l : Array Bool} {a : Act} {w : World} {i : Nat} {o : Oper} (hx : x.contains i = true) (ho : ops[i]? = some o)
    (h : ∀ K' : Act → World → Prop, Shut (∀ a w, anyX P md ops Q S x n (l.setIfInBounds i true) a w → K' a w) → if Region.wanted o (yielded ops a.tmps) = true then Oper.wp P o a w K' Q else K' (a.put o.dst undef) w) :
    AllX P md ops Q S x n l a w [i] := fun j hj => by
  obtain rfl : j = i := by simpa using hj
  exact wpOp_step ho (fun K' hK => h K' (fun a w hW => hK a w ⟨fun hn => absurd (hx.symm.trans hn) (by decide), hW⟩))
theorem anyX_ready {rs : List Nat} {n : Nat} {l : Array Bool} {a : Act} {w : World} (hr : Region.ready md ops l = rs) (hne : rs ≠ []) (h : AllX P md ops Q S x n l a w rs) : anyX P md ops Q S x (n + 1) l a w :=
  ⟨fun h0 => absurd (hr ▸ h0) hne, hr ▸ h⟩
theorem anyX_done {l : Array Bool} {a : Act} {w : World} (hr : Region.ready md ops l = []) (h : Q .normal a w) : ∀ n, anyX P md ops Q S x n l a w
  | 0 => ⟨hr, h⟩
  | _ + 1 => ⟨fun _ => h, by rw [hr]; simp⟩
theorem wp_region_x {id : Nat} {a : Act} {w : World} (x : List Nat) (hm : P.follows .mixedOrders = true) (hS : S w.drew)
    (h : S w.drew → anyX P .any ops Q S x ops.size (Array.replicate ops.size false) a w.drew) : (Code.region id ops true).wp P Q a w :=
  wp_region_any hm (any_of_x _ _ _ _ (h hS))
end
end Go.Proofs.Ytdilfiojfjgejaa
