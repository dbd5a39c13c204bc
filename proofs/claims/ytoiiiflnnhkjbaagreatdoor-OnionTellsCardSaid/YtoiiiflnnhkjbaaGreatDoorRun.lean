/-
  Runs of closed calls by the kernel: a call that reads no memory and asks nothing is run, step by step, in whatever world and under whatever callers.
-/
import Derived.Test.YtoiiiflnnhkjbaaGreatDoorRows
import Derived.WalkKit
namespace Go.Proofs.YtoiiiflnnhkjbaaGreatDoor
set_option linter.unusedVariables false

/-- One step of a lone goroutine. -/
def go1 (P : Program) (fr : Frame) (cs : List Frame) (w : World) : Option (Frame × List Frame × World) :=
  match stepG P true { frame := fr, callers := cs, status := .running, dying := none } w with
  | .go g w' _ => match g.status, g.dying, g.offers with
    | .running, none, none => some (g.frame, g.callers, w')
    | _, _, _ => none
  | _ => none

theorem go1_step {P : Program} {fr fr' : Frame} {cs cs' : List Frame} {w w' : World} (h : go1 P fr cs w = some (fr', cs', w')) : step P (lone fr cs w) = .next (lone fr' cs' w') := by
  apply step_lone_go
  unfold go1 at h
  split at h
  · rename_i g w1 es heq
    rw [heq]
    obtain ⟨gf, gc, gs, gd, go⟩ := g
    simp only at h
    split at h
    · simp at h
      simp_all [GStep.bare]
    · simp at h
  · simp at h

/-- At most so many steps, up to where the function f is about to return. -/
def goN (P : Program) (f : FuncId) : Nat → Frame → List Frame → World → Option (Frame × List Frame × World)
  | 0, fr, cs, w => some (fr, cs, w)
  | n + 1, fr, cs, w => match fr.fn == f, fr.mode with
    | true, .returning => some (fr, cs, w)
    | _, _ => match go1 P fr cs w with
      | some (fr', cs', w') => goN P f n fr' cs' w'
      | none => none

theorem goN_steps {P : Program} {f : FuncId} : ∀ (n : Nat) {fr fr' : Frame} {cs cs' : List Frame} {w w' : World}, goN P f n fr cs w = some (fr', cs', w') → Steps P (lone fr cs w) (lone fr' cs' w')
  | 0, fr, fr', cs, cs', w, w', h => by simp [goN] at h; obtain ⟨rfl, rfl, rfl⟩ := h; exact Steps.refl _ _
  | n + 1, fr, fr', cs, cs', w, w', h => by
    unfold goN at h
    split at h
    · simp at h; obtain ⟨rfl, rfl, rfl⟩ := h; exact Steps.refl _ _
    · split at h
      · rename_i fr1 cs1 w1 h1
        exact Steps.head (go1_step h1) (goN_steps n h)
      · simp at h

/-- The frame is about to return: what it tells, its callers, the world ahead of the telling and behind it. -/
def fin (P : Program) (f : FuncId) : Option (Frame × List Frame × World) → Option (Value × List Frame × World × World)
  | some (fr, cs', w) => match fr.fn == f, fr.mode, fr.defers, fr.kind with
    | true, .returning, [], .normal => match P.funcs[fr.fn]? with
      | some fn => match (results fn fr.tmps).run P w with
        | .ok v w' => some (v, cs', w, w')
        | _ => none
      | none => none
    | _, _, _, _ => none
  | none => none

theorem calls_of_fin {P : Program} {f : FuncId} {args : Array Value} {w w1 : World} {v : Value} (n : Nat) {R : Ending → World → Prop}
    (h : ∀ cs, fin P f (goN P f n (Frame.enter P f args .normal) cs w) = some (v, cs, w1, w1)) (hR : R (.returned v) w1) : Calls P f args w R := by
  intro cs
  have h1 := h cs
  cases hg : goN P f n (Frame.enter P f args .normal) cs w with
  | none => rw [hg] at h1; simp [fin] at h1
  | some x =>
    obtain ⟨fr, cs', w2⟩ := x
    rw [hg] at h1
    simp only [fin] at h1
    split at h1
    · rename_i h2 h3 h4 h5
      split at h1
      · rename_i fn h6
        split at h1
        · rename_i v' w' h7
          simp only [Option.some.injEq, Prod.mk.injEq] at h1
          obtain ⟨rfl, rfl, rfl, rfl⟩ := h1
          exact ⟨.returned v', _, fr, hR, goN_steps n hg, by simpa using h2, h3, h4, h5, fn, h6, h7⟩
        · simp at h1
      · simp at h1
    · simp at h1
end Go.Proofs.YtoiiiflnnhkjbaaGreatDoor
