/-
  Tags that are over go: what maps.DeleteFunc does by Expire's closures, at both maps.
-/
import Derived.Test.YtdilfiojfjgejaaRp2
namespace Go.Proofs.Ytdilfiojfjgejaa
set_option linter.unusedVariables false
set_option linter.unusedSimpArgs false
open Go.RowKit

set_option maxHeartbeats 2000000 in
/-- The closure on stamps. -/
theorem over1_any (gb b : Nat) (s : Ent) (w : World) (hb : w.cell? ⟨gb, 0, none⟩ = some (.int .u32 (b : Int))) :
    Calls Try.prog 21 #[.agg (entC s).toArray, .agg #[], .pointer (some ⟨gb, 0, none⟩)] w fun r w' => r = .returned (.bool (decide (s.e < b))) ∧ Frm (fun _ => False) w w' := by
  have HB := hide hb
  clear hb
  go_enter Try.func21, Try.ntmps21
  go_wp2_with (first
    | ((with_reducible refine wpl_boxa (op := ⟨some 3, _, _, _, _, _⟩) rfl _ (.tmp 0) rfl (entC s) rfl ?_); intro g1 w1 h1 hs1 f1; have H1 := hide h1; have F1 := hide f1; clear h1 hs1 f1)
    | ((with_reducible refine wpl_boxa (op := ⟨some 4, _, _, _, _, _⟩) rfl _ (.tmp 1) rfl [] rfl ?_); intro g2 w2 h2 hs2 f2; have c1 : w2.cell? ⟨g1, 0, none⟩ = some (.int .u32 (s.e : Int)) := (H1.out.frm f2 (fun h => h)).cell 0; have c2 := cell_frm (frm_ft F1.out f2) HB.out (fun h => h); have F2 := hide (frm_ft F1.out f2); clear h2 hs2 f2))
  go_ret
  refine ⟨?_, F2.out⟩
  have : decide ((s.e : Int) < (b : Int)) = decide (s.e < b) := decide_eq_decide.2 (by omega)
  rw [← this]
  rfl
set_option maxHeartbeats 2000000 in
/-- The closure on epochs. -/
theorem over2_any (gb b : Nat) (c : Cn) (w : World) (hb : w.cell? ⟨gb, 0, none⟩ = some (.int .u32 (b : Int))) :
    Calls Try.prog 23 #[.int .u32 (c.e : Int), .int .i64 (c.n : Int), .pointer (some ⟨gb, 0, none⟩)] w fun r w' => r = .returned (.bool (decide (c.e < b))) ∧ w' = w := by
  go_enter Try.func23, Try.ntmps23
  go_wp2_with fail
  go_ret
  refine ⟨?_, rfl⟩
  have : decide ((c.e : Int) < (b : Int)) = decide (c.e < b) := decide_eq_decide.2 (by omega)
  rw [← this]
  rfl

theorem KS_next {x : Ent} {it : Value} {w : World} (h : (Instr.entry it).run Try.prog w = .ok (.tuple #[KS.key x, KS.val x]) w) : (Instr.entry it).run Try.prog w = .ok (.tuple #[.agg (entC x).toArray, .agg #[]]) w := h
theorem KC_next {x : Cn} {it : Value} {w : World} (h : (Instr.entry it).run Try.prog w = .ok (.tuple #[KC.key x, KC.val x]) w) : (Instr.entry it).run Try.prog w = .ok (.tuple #[.int .u32 (x.e : Int), .int .i64 (x.n : Int)]) w := h
/-- What has been kept of those that came, and those that are still to come. -/
structure Gone {α : Type} (f : α → Bool) (l p left D : List α) : Prop where
  all : l.Perm (p ++ left)
  now : D.Perm (p.filter f ++ left)
theorem Gone.start {α : Type} (f : α → Bool) (l : List α) : Gone f l [] l l := ⟨.refl _, .refl _⟩
theorem Gone.stays {α : Type} {f : α → Bool} {l p left left' D : List α} {x : α} (h : Gone f l p left D) (hx : (x :: left').Perm left) (hf : f x = true) : Gone f l (p ++ [x]) left' D := by
  refine ⟨h.all.trans ?_, h.now.trans ?_⟩
  · rw [List.append_assoc]
    exact hx.symm.append_left _
  · rw [List.filter_append, List.filter_cons_of_pos hf, List.filter_nil, List.append_assoc]
    exact hx.symm.append_left _
theorem Gone.goes {α : Type} {f : α → Bool} {l p left left' D : List α} {x : α} (h : Gone f l p left D) (hx : (x :: left').Perm left) (hf : f x = false) : D.Perm (p.filter f ++ x :: left') ∧ Gone f l (p ++ [x]) left' (p.filter f ++ left') := by
  refine ⟨h.now.trans (hx.symm.append_left _), h.all.trans ?_, ?_⟩
  · rw [List.append_assoc]
    exact hx.symm.append_left _
  · rw [List.filter_append, List.filter_cons_of_neg (by rw [hf]; decide), List.filter_nil, List.append_nil]
theorem Gone.done {α : Type} {f : α → Bool} {l p D : List α} (h : Gone f l p [] D) : D.Perm (l.filter f) := by
  have h1 := h.all.filter f
  rw [List.append_nil] at h1
  have h2 := h.now
  rw [List.append_nil] at h2
  exact h2.trans h1.symm

set_option maxHeartbeats 4000000 in
set_option maxRecDepth 100000 in
theorem drop2_any (bc gb b : Nat) (C : List Cn) (w : World) (hm : MapAt KC w bc C) (hb : w.cell? ⟨gb, 0, none⟩ = some (.int .u32 (b : Int))) (hne : gb ≠ bc) :
    Calls Try.prog 22 #[.map (some bc), .func (.func 23) #[] #[.pointer (some ⟨gb, 0, none⟩)]] w fun r w' => r = .returned (.tuple #[]) ∧ MapAt KC w' bc (C.filter fun c => !decide (c.e < b)) ∧ Frm (fun k => k = bc) w w' := by
  have HM := hide hm
  have HB := hide hb
  have HNE := hide hne
  clear hm hb hne
  go_enter Try.func22, Try.ntmps22
  go_wp2_with (at_range; refine wpl_range_m (K := KC) rfl (.tmp 6) rfl rfl HM.out ?_; intro w0 hrg0 hf0 hs0)
  go_frame
  have HRG0 := hide hrg0
  have HF0 := hide hf0
  clear hrg0 hf0 hs0
  go_loopw [8] (fun _ wr => ∃ p left D, Gone (fun c : Cn => !decide (c.e < b)) C p left D ∧ Ranging KC wr bc w.heap.size D left ∧ Frm (fun k => k = bc) w wr)
    (fun _ wr => wr.rangeLeft bc w.heap.size)
  case atStart => exact ⟨[], C, C, .start _ _, HRG0.out, frm_any HF0.out⟩
  case round =>
    obtain ⟨p, left, D, hG, hrg, hf⟩ := hrel
    have HG := hide hG
    have HRG := hide hrg
    have HF := hide hf
    clear hG hrg hf
    go_wp2_with (at_next; refine wpl_next_m (K := KC) rfl (.tmp 7) rfl rfl HRG.out ?_ ?_)
    · intro hl0
      go_wp2_with fail
      go_end0
      subst hl0
      exact ⟨rfl, HRG.out.map.perm HG.out.done, HF.out⟩
    · intro x left' w1 hp hrg1 hf1 hxD hap hen
      have hen := KC_next hen
      have hrl := HRG.out.lt
      have hrne := HRG.out.ne
      have hgt : w.heap.size ≠ gb := fun e => by
        have := World.block_lt_of_cell? w _ HB.out
        simp only at this
        omega
      have hfw : Frm (fun k => k = bc) w w1 := HF.out.trans hf1 (fun i hi e => by omega)
      have hb1 := cell_frm hfw HB.out HNE.out
      have HC2 := hide (over2_any gb b x w1 hb1)
      have HRG1 := hide hrg1
      have HFW := hide hfw
      have HP := hide hp
      have HAP := hide hap
      have hlen := hp.length_eq
      clear hrg1 hf1 hfw hp hap hb1 hxD
      by_cases hx : x.e < b
      · have hd : decide (x.e < b) = true := decide_eq_true hx
        rw [hd] at HC2
        obtain ⟨hD, hG2⟩ := HG.out.goes (x := x) (left' := left') HP.out (by simp [hx])
        have HD := hide hD
        have HG2 := hide hG2
        clear hD hG2 hd
        go_wp2_with (first
          | (go_at_call 23; refine HC2.out.mono ?_; rintro e w2 ⟨rfl, rfl⟩)
          | (at_delete; refine wpl_del_m (K := KC) rfl (.tmp 17) (.tmp 18) rfl x rfl rfl (HRG1.out.perm HD.out) HAP.out ?_; intro w3 hrg3 hf3; go_frame))
        go_roundw
        case rel => exact ⟨_, _, _, HG2.out, hrg3, HFW.out.trans hf3 (fun _ _ h => h)⟩
        case measure => rw [hrg3.left_eq, HRG.out.left_eq, ← hlen]; simp
      · have hd : decide (x.e < b) = false := decide_eq_false hx
        rw [hd] at HC2
        have HG2 := hide (HG.out.stays (x := x) (left' := left') HP.out (by simp [hx]))
        clear hd
        go_wp2_with (go_at_call 23; refine HC2.out.mono ?_; rintro e w2 ⟨rfl, rfl⟩)
        go_roundw
        case rel => exact ⟨_, _, _, HG2.out, HRG1.out, HFW.out⟩
        case measure => rw [HRG1.out.left_eq, HRG.out.left_eq, ← hlen]; simp
theorem nil_len : ([] : List Value).length = 0 := rfl
theorem nil_size : ([] : List Value).toArray.size = 0 := rfl
theorem nil_one : ∀ v ∈ ([] : List Value), v.oneCell' = true := fun _ h => by cases h
theorem nil_drop : (([] : List Value).drop 0).take 0 = [] := rfl
theorem nil_le : 0 + 0 ≤ ([] : List Value).length := Nat.le_refl _
theorem ent_whole (s : Ent) : ((entC s).drop 0).take 17 = entC s := by rw [List.drop_zero, List.take_of_length_le (by rw [entC_length]; exact Nat.le_refl _)]
theorem ent_room (s : Ent) : 0 + 17 ≤ (entC s).length := by rw [entC_length]; exact Nat.le_refl _
set_option maxHeartbeats 8000000 in
set_option maxRecDepth 100000 in
theorem drop1_any (bs gb b : Nat) (l : List Ent) (w : World) (hm : MapAt KS w bs l) (hb : w.cell? ⟨gb, 0, none⟩ = some (.int .u32 (b : Int))) (hne : gb ≠ bs) :
    Calls Try.prog 20 #[.map (some bs), .func (.func 21) #[] #[.pointer (some ⟨gb, 0, none⟩)]] w fun r w' => r = .returned (.tuple #[]) ∧ MapAt KS w' bs (l.filter fun s => !decide (s.e < b)) ∧ Frm (fun k => k = bs) w w' := by
  have HM := hide hm
  have HB := hide hb
  have HNE := hide hne
  have HBL := hide hm.lt
  clear hm hb hne
  go_enter Try.func20, Try.ntmps20
  go_wp2_with (at_range; refine wpl_range_m (K := KS) rfl (.tmp 6) rfl rfl HM.out ?_; intro w0 hrg0 hf0 hs0)
  go_frame
  have HRG0 := hide hrg0
  have HF0 := hide hf0
  clear hrg0 hf0 hs0
  go_loopw [4, 5, 8] (fun _ _ _ wr => ∃ p left D, Gone (fun s : Ent => !decide (s.e < b)) l p left D ∧ Ranging KS wr bs w.heap.size D left ∧ Frm (fun k => k = bs) w wr)
    (fun _ _ _ wr => wr.rangeLeft bs w.heap.size)
  case atStart => exact ⟨[], l, l, .start _ _, HRG0.out, frm_any HF0.out⟩
  case round =>
    obtain ⟨p, left, D, hG, hrg, hf⟩ := hrel
    have HG := hide hG
    have HRG := hide hrg
    have HF := hide hf
    clear hG hrg hf
    go_wp2_with (at_next; refine wpl_next_m (K := KS) rfl (.tmp 7) rfl rfl HRG.out ?_ ?_)
    · intro hl0
      go_wp2_with fail
      go_end0
      subst hl0
      exact ⟨rfl, HRG.out.map.perm HG.out.done, HF.out⟩
    · intro x left' w1 hp hrg1 hf1 hxD hap hen
      have hen := KS_next hen
      have hrl := HRG.out.lt
      have hrne := HRG.out.ne
      have hgt : w.heap.size ≠ gb := fun e => by
        have := World.block_lt_of_cell? w _ HB.out
        simp only at this
        omega
      have hfw : Frm (fun k => k = bs) w w1 := HF.out.trans hf1 (fun i hi e => by omega)
      have HRG1 := hide hrg1
      have HFW := hide hfw
      have HP := hide hp
      have HAP := hide hap
      have hlen := hp.length_eq
      have HLEN := hide hlen
      have hb1 := cell_frm hfw HB.out HNE.out
      clear hrg1 hf1 hfw hp hap hxD hlen hrl hrne hgt
      have HB1 := hide hb1
      have HC1 := hide (fun (W : World) (h : W.cell? ⟨gb, 0, none⟩ = some (.int .u32 (b : Int))) => over1_any gb b x W h)
      clear hb1
      by_cases hx : x.e < b
      · rw [decide_eq_true hx] at HC1
        obtain ⟨hD, hG2⟩ := HG.out.goes (x := x) (left' := left') HP.out (by simp [hx])
        have HD := hide hD
        have HG2 := hide hG2
        clear hD hG2 hx
        go_wp2_with (first
          | ((with_reducible refine wpl_alloca (op := ⟨some 4, _, _, _, _, _⟩) rfl _ rfl _ zeroK ?_); intro g4 w4 h4 hs4 f4; have H4 := hide h4; have HS4 := hide hs4; have F4 := hide f4; clear h4 hs4 f4)
          | ((with_reducible refine wpl_alloca (op := ⟨some 5, _, _, _, _, _⟩) rfl _ rfl _ zeroU ?_); intro g5 w5 h5 hs5 f5; have hlt4 := H4.out.lt; have H45 := hide (H4.out.frm f5 (fun h => h)); have H5 := hide h5; have HS5 : Hid (w1.heap.size ≤ g5) := (by show _ ≤ _; have := F4.out.size; omega); have F5 := hide (frm_ft F4.out f5); have HNE45 : Hid (g4 ≠ g5) := (by show _ ≠ _; omega); clear h5 hs5 f5 hlt4)
          | ((with_reducible refine wpl_storea aggK (op := ⟨none, _, _, _, _, _⟩) rfl (.tmp 4) (.tmp 11) rfl g4 (entC x) rfl rfl _ _ H45.out (entC_length x) rfl (entC_one x) ?_); intro w6 h6 f6; have H6 := hide h6; have H56 := hide (H5.out.frm f6 (fun e => HNE45.out e.symm)); have F6 := hide (frm_fs w1 F5.out f6 (fun i e => by rw [e]; exact HS4.out)); clear h6 f6)
          | ((with_reducible refine wpl_storea aggU (op := ⟨none, _, _, _, _, _⟩) rfl (.tmp 5) (.tmp 12) rfl g5 [] rfl rfl _ _ H56.out nil_len nil_size nil_one ?_); intro w7 h7 f7; have H7 := hide h7; have H67 := hide (H6.out.frm f7 HNE45.out); have F7 := hide (frm_fs w1 F6.out f7 (fun i e => by rw [e]; exact HS5.out)); clear h7 f7)
          | (with_reducible refine wpl_loada aggK (op := ⟨some 14, _, _, _, _, _⟩) rfl (.tmp 4) rfl g4 0 rfl _ _ (entC x) H67.out (ent_whole x) (ent_room x) ?_)
          | (with_reducible refine wpl_loada aggU (op := ⟨some 15, _, _, _, _, _⟩) rfl (.tmp 5) rfl g5 0 rfl _ _ [] H7.out nil_drop nil_le ?_)
          | (go_at_call 21; refine (HC1.out w7 (cell_frm F7.out HB1.out (fun h => h))).mono ?_; rintro r w8 ⟨rfl, f8⟩; have F8 := hide (frm_ft F7.out f8); have H78 := hide (H67.out.frm f8 (fun h => h)); clear f8)
          | (with_reducible refine wpl_loada aggK (op := ⟨some 18, _, _, _, _, _⟩) rfl (.tmp 4) rfl g4 0 rfl _ _ (entC x) H78.out (ent_whole x) (ent_room x) ?_)
          | (at_delete; refine wpl_del_m (K := KS) rfl (.tmp 17) (.tmp 18) rfl x rfl rfl ((HRG1.out.frm F8.out (fun h => h) (fun h => h)).perm HD.out) HAP.out ?_; intro w9 hrg9 hf9; go_frame))
        go_roundw
        case rel => exact ⟨_, _, _, HG2.out, hrg9, (HFW.out.trans F8.out (fun _ _ h => h.elim)).trans hf9 (fun _ _ h => h)⟩
        case measure => rw [hrg9.left_eq, HRG.out.left_eq, ← HLEN.out]; simp
      · rw [decide_eq_false hx] at HC1
        have HG2 := hide (HG.out.stays (x := x) (left' := left') HP.out (by simp [hx]))
        clear hx
        go_wp2_with (first
          | ((with_reducible refine wpl_alloca (op := ⟨some 4, _, _, _, _, _⟩) rfl _ rfl _ zeroK ?_); intro g4 w4 h4 hs4 f4; have H4 := hide h4; have HS4 := hide hs4; have F4 := hide f4; clear h4 hs4 f4)
          | ((with_reducible refine wpl_alloca (op := ⟨some 5, _, _, _, _, _⟩) rfl _ rfl _ zeroU ?_); intro g5 w5 h5 hs5 f5; have hlt4 := H4.out.lt; have H45 := hide (H4.out.frm f5 (fun h => h)); have H5 := hide h5; have HS5 : Hid (w1.heap.size ≤ g5) := (by show _ ≤ _; have := F4.out.size; omega); have F5 := hide (frm_ft F4.out f5); have HNE45 : Hid (g4 ≠ g5) := (by show _ ≠ _; omega); clear h5 hs5 f5 hlt4)
          | ((with_reducible refine wpl_storea aggK (op := ⟨none, _, _, _, _, _⟩) rfl (.tmp 4) (.tmp 11) rfl g4 (entC x) rfl rfl _ _ H45.out (entC_length x) rfl (entC_one x) ?_); intro w6 h6 f6; have H6 := hide h6; have H56 := hide (H5.out.frm f6 (fun e => HNE45.out e.symm)); have F6 := hide (frm_fs w1 F5.out f6 (fun i e => by rw [e]; exact HS4.out)); clear h6 f6)
          | ((with_reducible refine wpl_storea aggU (op := ⟨none, _, _, _, _, _⟩) rfl (.tmp 5) (.tmp 12) rfl g5 [] rfl rfl _ _ H56.out nil_len nil_size nil_one ?_); intro w7 h7 f7; have H7 := hide h7; have H67 := hide (H6.out.frm f7 HNE45.out); have F7 := hide (frm_fs w1 F6.out f7 (fun i e => by rw [e]; exact HS5.out)); clear h7 f7)
          | (with_reducible refine wpl_loada aggK (op := ⟨some 14, _, _, _, _, _⟩) rfl (.tmp 4) rfl g4 0 rfl _ _ (entC x) H67.out (ent_whole x) (ent_room x) ?_)
          | (with_reducible refine wpl_loada aggU (op := ⟨some 15, _, _, _, _, _⟩) rfl (.tmp 5) rfl g5 0 rfl _ _ [] H7.out nil_drop nil_le ?_)
          | (go_at_call 21; refine (HC1.out w7 (cell_frm F7.out HB1.out (fun h => h))).mono ?_; rintro r w8 ⟨rfl, f8⟩; have F8 := hide (frm_ft F7.out f8); have H78 := hide (H67.out.frm f8 (fun h => h)); clear f8))
        have hrg8 := HRG1.out.frm F8.out (fun h => h) (fun h => h)
        go_roundw
        case rel => exact ⟨_, _, _, HG2.out, hrg8, HFW.out.trans F8.out (fun _ _ h => h.elim)⟩
        case measure => rw [hrg8.left_eq, HRG.out.left_eq, ← HLEN.out]; simp
end Go.Proofs.Ytdilfiojfjgejaa
