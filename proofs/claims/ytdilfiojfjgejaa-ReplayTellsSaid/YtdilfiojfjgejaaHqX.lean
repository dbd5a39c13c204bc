/-
  A region whose last operations turn what others of it read (HeldX): one that needs nothing of the world may be taken first.
-/
import Derived.Test.YtdilfiojfjgejaaHeldX
namespace Go.Proofs.Ytdilfiojfjgejaa
set_option linter.unusedVariables false
set_option linter.unusedSimpArgs false

section
variable {P : Program} {ops : Array Oper} {Q : Exit → Act → World → Prop} {md : Region.Mode} {S : World → Prop} {x : List Nat}
theorem anyX_more {i : Nat} : ∀ (n : Nat) (l : Array Bool) (a : Act) (w : World), anyX P md ops Q S x n l a w → anyX P md ops Q S (i :: x) n l a w
  | 0, _, _, _, h => h
  | n + 1, l, a, w, h => ⟨h.1, fun j hj => wpOp_mono (fun a' w' k => ⟨fun hc => k.1 (by rw [List.contains_cons, Bool.or_eq_false_iff] at hc; exact hc.2), anyX_more n _ a' w' k.2⟩) (h.2 j hj)⟩
theorem anyX_firstP {i : Nat} {oi : Oper} {v : Value} (hi : ops[i]? = some oi) (hsel : ∀ (j : Nat) (o : Oper) cs b, ops[j]? = some o → o.op ≠ .select cs b) (hQ : ∀ c a w, Q (.panic c) (a.put oi.dst v) w → Q (.panic c) a w) :
    ∀ (n : Nat) (l : Array Bool) (a : Act) (w : World), (∀ j oj, ops[j]? = some oj → j ≠ i → l.getD j true = false → (∀ e ∈ oj.after, Region.binds md e = true → e.on ≠ i) → oi.apart ops oj = true) →
      i ∈ Region.ready md ops l → YieldsIf P ops (fun _ => True) oi v a → anyX P md ops Q S x n (l.setIfInBounds i true) (a.put oi.dst v) w → anyX P md ops Q S (i :: x) (n + 1) l a w := by
  intro n
  induction n with
  | zero =>
    intro l a w _ hr hy H
    refine ⟨fun h => (by rw [h] at hr; cases hr), fun j hj => ?_⟩
    by_cases e : j = i
    · subst e; exact hy.wpOp hi trivial ⟨fun hc => absurd hc (by simp), H⟩
    · have k := ready_mono hj e
      rw [H.1] at k
      cases k
  | succ n ih =>
    intro l a w free hr hy H
    refine ⟨fun h => (by rw [h] at hr; cases hr), fun j hj => ?_⟩
    by_cases e : j = i
    · subst e; exact hy.wpOp hi trivial ⟨fun hc => absurd hc (by simp), anyX_more _ _ _ _ H⟩
    · obtain ⟨hun, oj, hoj, hall⟩ := mem_ready.1 hj
      have hno : ∀ e ∈ oj.after, Region.binds md e = true → e.on ≠ i := fun d hd hb he => by
        have k1 := getD_false (hall d hd hb)
        rw [he, (mem_ready.1 hr).1] at k1
        cases k1
      have k2 := wpOp_putIf hoj (free j oj hoj e hun hno) (fun cs b => hsel i oi cs b hi) (fun cs b => hsel j oj cs b hoj) hQ hy (H.2 j (ready_mono hj e))
      have free2 : ∀ k ok, ops[k]? = some ok → k ≠ i → (l.setIfInBounds j true).getD k true = false → (∀ d ∈ ok.after, Region.binds md d = true → d.on ≠ i) → oi.apart ops ok = true := fun k ok hk hki hu hn => by
        by_cases f : j = k
        · subst f; exact free j ok hk hki hun hn
        · rw [getD_set_ne true f] at hu; exact free k ok hk hki hu hn
      refine wpOp_mono (fun a' w' k3 => ⟨fun hc => k3.2.1 (by rw [List.contains_cons, Bool.or_eq_false_iff] at hc; exact hc.2), ih _ a' w' free2 (ready_mono hr (Ne.symm e)) k3.1 ?_⟩) k2
      rw [Array.setIfInBounds_comm _ _ e]
      exact k3.2.2
/-- Number i, that needs nothing of the world, first. -/
theorem anyX_pure {i : Nat} {oi : Oper} {v : Value} {n : Nat} {l : Array Bool} {a : Act} {w : World} (hi : ops[i]? = some oi)
    (hs : Region.noSelect ops = true) (hf : Region.free md ops l i = true) (hr : (Region.ready md ops l).contains i = true)
    (hQ : ∀ c a w, Q (.panic c) (a.put oi.dst v) w → Q (.panic c) a w) (hy : YieldsIf P ops (fun _ => True) oi v a)
    (h : anyX P md ops Q S x n (l.setIfInBounds i true) (a.put oi.dst v) w) : anyX P md ops Q S (i :: x) (n + 1) l a w :=
  anyX_firstP hi (Region.noSelect_spec hs) hQ n l a w (Region.free_spec hi hf) (by simpa using hr) hy h
end
end Go.Proofs.Ytdilfiojfjgejaa
