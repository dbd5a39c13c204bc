/-
  The document's own heap: what it is in memory; New and First.
-/
import Derived.Test.YtjpmicjlbkdcbaaHrL
import Derived.Test.YtjpmicjlbkdcbaaHqO
import Derived.Deep.RegionHeld3
namespace Go.Proofs.Ytjpmicjlbkdcbaa
set_option linter.unusedVariables false
set_option linter.unusedSimpArgs false
open Go.RowKit

theorem isR : IsT Try.prog 43 39 .i64 := IsT.of (by kernel_rfl) Try.underlying39 (by kernel_rfl)
abbrev ROw (w : World) (B : Nat) (A : Option Addr) (n c : Nat) (L : List Th) : Prop := TOwn w 43 .i64 B A n c L
/-- The document's heap in block g, its row's block rw. -/
def RAt (w : World) (B g : Nat) (R : List Th) (q : Qu) : Prop :=
  B ≤ g ∧ ∃ A n c, Blk w g 41 #[.int .i64 q.most, .slice A n c, .int .u64 (q.num : Int)] ∧ ROw w B A n c R ∧ LikeR R q.S ∧ q.ok
section
variable {w w' : World} {B g : Nat} {R : List Th} {q : Qu}
theorem RAt.frm0 (h : RAt w B g R q) (f : Frm (fun _ => False) w w') : RAt w' B g R q := by
  obtain ⟨h1, A, n, c, hb, ho, hl⟩ := h
  exact ⟨h1, A, n, c, hb.frm f (fun h => h), ho.frm0 f, hl⟩
theorem RAt.base {B' : Nat} (h : RAt w B g R q) (hB : B' ≤ B) : RAt w B' g R q := by
  obtain ⟨h1, A, n, c, hb, ho, hl⟩ := h
  exact ⟨Nat.le_trans hB h1, A, n, c, hb, ho.base hB, hl⟩
theorem RAt.lt (h : RAt w B g R q) : B ≤ g ∧ g < w.heap.size := by obtain ⟨h1, A, n, c, hb, ho, hl⟩ := h; exact ⟨h1, hb.lt⟩
end
set_option maxHeartbeats 1000000 in
theorem rnew_any (m : Int) (w : World) : Calls Try.prog 11 #[.int .i64 m] w fun e w' => ∃ g, e = .returned (.pointer (some ⟨g, 0, none⟩)) ∧ RAt w' w.heap.size g [] (newQ m) ∧ Frm (fun _ => False) w w' := by
  obtain ⟨k, hk⟩ : ∃ k, k = if m < 1 then 1 else m := ⟨_, rfl⟩
  have HK := hide hk
  clear hk
  go_enter Try.func11, Try.ntmps11
  go_wp2_with (refine wpl_max rfl (.tmp 3) (.const (.int .i64 1)) _ _ rfl _ m 1 k rfl rfl HK.out ?_)
  go_ret
  refine ⟨_, rfl, ⟨Nat.le_refl _, none, 0, 0, ?_, TOwn.nil _ _, LikeR.nil, Qu.ok.new m⟩, Frm.alloc _ _ _⟩
  have := Blk.new w 41 #[.int .i64 k, .slice none 0 0, .int .u64 0]
  show Blk _ _ _ #[.int .i64 (if m < 1 then 1 else m), .slice none 0 0, .int .u64 0]
  rw [← HK.out]
  exact this

set_option maxHeartbeats 2000000 in
set_option maxRecDepth 100000 in
theorem rfirst_any (B g : Nat) (R : List Th) (q : Qu) (w : World) (h : RAt w B g R q) (hs : R.length ≤ 50000) : Calls Try.prog 17 #[.pointer (some ⟨g, 0, none⟩)] w fun e w' => e = .returned (.int .i64 (minV (minAt R R.length))) ∧ Frm (fun _ => False) w w' := by
  obtain ⟨_, A, n, c, hb, ho, hl, _⟩ := h
  have hn := ho.len
  rw [hn] at hs ⊢
  have HB := hide hb
  have HO := hide ho
  have HN := hide hn
  have HP := hide hl.2.1
  clear hb ho hl hn
  go_enter Try.func17, Try.ntmps17
  go_wp2_with fail
  go_loopw [3, 4] (fun kk i wr => ∃ j : Nat, j ≤ n ∧ i = .int .i64 (j : Int) ∧ kk = .int .i64 (minV (minAt R j)) ∧ Frm (fun _ => False) w wr) (fun _ i _ => n - (intOf i).toNat)
  case atStart => exact ⟨0, by omega, rfl, rfl, Frm.refl _ _⟩
  case round =>
    obtain ⟨j, hj, rfl, rfl, hf⟩ := hrel
    have HF := hide hf
    have d0 : wr.cell? ⟨g, 1, none⟩ = some (.slice A n c) := (HB.out.frm hf (fun h => h)).cell 1
    clear hf
    by_cases hjn : j < n
    · have hjn' : (j : Int) < (n : Int) := by omega
      rcases HO.out.row with ⟨_, h0, _, _⟩ | ⟨r, rfl, hB, hr⟩
      · omega
      · have hr1 := hr.frm0 HF.out
        have hcj := (hr1.cells j (by rw [HN.out]; omega)).1
        obtain ⟨tj, htj⟩ : ∃ t, t = (at_ R j).t := ⟨_, rfl⟩
        rw [← htj] at hcj
        have HTJ := hide htj
        clear htj
        cases hm : minAt R j with
        | none =>
          have hm1 : (-1 : Int) < 0 := by decide
          have HM : Hid (minAt R (j + 1) = some j) := by show _ = _; unfold minAt; rw [hm]
          clear hr hr1 hm
          simp only [minV]
          go_wp2_with fail
          go_quiet (fail)
          go_wp2_with fail
          go_roundw
          case rel => exact ⟨j + 1, by omega, by go_num, (by rw [HM.out]; try rfl), HF.out.drewN _⟩
          case measure => simp [intOf]; omega
        | some k =>
          obtain ⟨hk, _⟩ := minAt_some HP.out (by rw [HN.out]; omega) hm
          have hkn : (k : Int) < (n : Int) := by omega
          have hk0 : ¬ (k : Int) < 0 := by omega
          have hck := (hr1.cells k (by rw [HN.out]; omega)).1
          obtain ⟨tk, htk⟩ : ∃ t, t = (at_ R k).t := ⟨_, rfl⟩
          rw [← htk] at hck
          by_cases hlt : tj < tk
          · have hlt' : (tj : Int) < (tk : Int) := by omega
            have HM : Hid (minAt R (j + 1) = some j) := by show _ = _; unfold minAt; rw [hm]; simp only; rw [if_pos (by rw [← HTJ.out, ← htk]; exact hlt)]
            clear hr hr1 hm htk hlt hk
            simp only [minV]
            go_wp2_with fail
            go_quiet (fail)
            go_wp2_with fail
            go_roundw
            case rel => exact ⟨j + 1, by omega, by go_num, (by rw [HM.out]; try rfl), HF.out.drewN _⟩
            case measure => simp [intOf]; omega
          · have hlt' : ¬ (tj : Int) < (tk : Int) := by omega
            have HM : Hid (minAt R (j + 1) = some k) := by show _ = _; unfold minAt; rw [hm]; simp only; rw [if_neg (by rw [← HTJ.out, ← htk]; exact hlt)]
            clear hr hr1 hm htk hlt hk
            simp only [minV]
            go_wp2_with fail
            go_quiet (fail)
            go_wp2_with fail
            go_roundw
            case rel => exact ⟨j + 1, by omega, by go_num, (by rw [HM.out]; try rfl), HF.out.drewN _⟩
            case measure => simp [intOf]; omega
    · obtain rfl : j = n := by omega
      have hjn' : ¬ (j : Int) < (j : Int) := by omega
      go_wp2_with fail
      go_ret
      exact ⟨rfl, HF.out⟩
end Go.Proofs.Ytjpmicjlbkdcbaa
