/-
  The document's SHA-256: its rounds.
-/
import Derived.Test.YtoiiiflnnhkjbaaGreatDoorOHmB
import Derived.Test.YtoiiiflnnhkjbaaGreatDoorOnT
namespace Go.Proofs.YtoiiiflnnhkjbaaGreatDoor
set_option linter.unusedVariables false
open Go.RowKit

set_option maxRecDepth 100000 in
set_option maxHeartbeats 2000000 in
theorem num_any (l : List UInt8) (w : World) (hl : l.length = 4) :
    Calls Tryz.prog 50 #[.string ⟨l.toArray⟩] w fun e w' => e = .returned (.int .u64 (num l : Nat)) ∧ w = w' := by
  have HL := hide hl
  have hsz : (⟨l.toArray⟩ : ByteArray).size = 4 := by show l.toArray.size = 4; simpa using hl
  clear hl
  go_enter Tryz.func50, Tryz.ntmps50
  go_wp2_with fail
  go_loop [3, 4] (fun n i => ∃ k : Nat, k ≤ 4 ∧ i = .int .i64 k ∧ n = .int .u64 (num (l.take k) : Nat)) (fun _ i => 4 - (intOf i).toNat)
  case atStart => exact ⟨0, by omega, rfl, rfl⟩
  case round =>
    obtain ⟨k, hk, rfl, rfl⟩ := hrel
    by_cases hlt : k < 4
    · have hn := num_take_lt l k 4 (by omega)
      have HT := hide (num_take_succ l k (by rw [HL.out]; exact hlt))
      have hb := (l[k]?.getD 0).toNat_lt
      generalize num (l.take k) = x at *
      have hix : ∀ w, Sem.run Tryz.prog (Instr.index 9 (.string ⟨l.toArray⟩) (.int .i64 (k : Int))) w = .ok (.int .u8 ((l[k]?.getD 0).toNat : Int)) w := by
        intro w
        have hkl : k < l.length := by rw [HL.out]; exact hlt
        have h1 : (⟨l.toArray⟩ : ByteArray)[k]? = some (l[k]?.getD 0) := by
          rw [List.getElem?_eq_getElem hkl]
          exact (dif_pos (show k < (⟨l.toArray⟩ : ByteArray).size by rw [hsz]; exact hlt)).trans (congrArg some rfl)
        simp only [Instr.index, asIntOf, Sem.run_bind, run_underlying under9, Result.andThen_ok]
        simp [h1]
      generalize l[k]?.getD 0 = c at *
      go_wp2_with fail
      go_round
      case rel => exact ⟨k + 1, by omega, by go_num, by rw [HT.out]; simp⟩
      case measure => simp [intOf]; omega
    · obtain rfl : k = 4 := by omega
      have hall : l.take 4 = l := List.take_of_length_le (by rw [HL.out]; exact Nat.le_refl _)
      rw [hall]
      clear hall
      go_wp2_with fail
      go_ret
      exact ⟨rfl, rfl⟩
def rturn (x k : Nat) : Nat := x / 2 ^ k + x % 2 ^ k * 2 ^ (32 - k)
theorem rturn_eq (x k : Nat) (hx : x < 4294967296) (h1 : 1 ≤ k) (h2 : k ≤ 31) : rturn x k = rotN x k := by
  unfold rturn rotN
  have hp : 2 ^ k * 2 ^ (32 - k) = 4294967296 := by rw [← Nat.pow_add, show k + (32 - k) = 32 by omega]
  have h3 : x * 2 ^ (32 - k) % 4294967296 = x % 2 ^ k * 2 ^ (32 - k) := by rw [← hp, Nat.mul_mod_mul_right]
  have h4 : x / 2 ^ k < 2 ^ (32 - k) := (Nat.div_lt_iff_lt_mul (Nat.two_pow_pos k)).2 (by rw [Nat.mul_comm, hp]; exact hx)
  rw [h3, nat_join (32 - k) _ _ (Nat.mul_mod_left _ _) h4, Nat.add_comm]
theorem rturn2 (x : Nat) (w : World) (hx : x < 4294967296) :
    Calls Tryz.prog 85 #[.int .u32 x, .int .i64 2] w fun e w' => e = .returned (.int .u32 (rotN x 2 : Nat)) ∧ ∃ n, w' = w.drewN n := by
  have hr := rturn_eq x 2 hx (by decide) (by decide)
  unfold rturn at hr
  have HR := hide hr
  clear hr
  go_enter Tryz.func85, Tryz.ntmps85
  go_wp2_with fail
  go_quiet (fail)
  go_wp2
  go_ret
  refine ⟨congrArg (fun z => Ending.returned (.int .u32 z)) ?_, _, rfl⟩
  rw [← HR.out]
  omega
theorem rturn6 (x : Nat) (w : World) (hx : x < 4294967296) :
    Calls Tryz.prog 85 #[.int .u32 x, .int .i64 6] w fun e w' => e = .returned (.int .u32 (rotN x 6 : Nat)) ∧ ∃ n, w' = w.drewN n := by
  have hr := rturn_eq x 6 hx (by decide) (by decide)
  unfold rturn at hr
  have HR := hide hr
  clear hr
  go_enter Tryz.func85, Tryz.ntmps85
  go_wp2_with fail
  go_quiet (fail)
  go_wp2
  go_ret
  refine ⟨congrArg (fun z => Ending.returned (.int .u32 z)) ?_, _, rfl⟩
  rw [← HR.out]
  omega
theorem rturn7 (x : Nat) (w : World) (hx : x < 4294967296) :
    Calls Tryz.prog 85 #[.int .u32 x, .int .i64 7] w fun e w' => e = .returned (.int .u32 (rotN x 7 : Nat)) ∧ ∃ n, w' = w.drewN n := by
  have hr := rturn_eq x 7 hx (by decide) (by decide)
  unfold rturn at hr
  have HR := hide hr
  clear hr
  go_enter Tryz.func85, Tryz.ntmps85
  go_wp2_with fail
  go_quiet (fail)
  go_wp2
  go_ret
  refine ⟨congrArg (fun z => Ending.returned (.int .u32 z)) ?_, _, rfl⟩
  rw [← HR.out]
  omega
theorem rturn11 (x : Nat) (w : World) (hx : x < 4294967296) :
    Calls Tryz.prog 85 #[.int .u32 x, .int .i64 11] w fun e w' => e = .returned (.int .u32 (rotN x 11 : Nat)) ∧ ∃ n, w' = w.drewN n := by
  have hr := rturn_eq x 11 hx (by decide) (by decide)
  unfold rturn at hr
  have HR := hide hr
  clear hr
  go_enter Tryz.func85, Tryz.ntmps85
  go_wp2_with fail
  go_quiet (fail)
  go_wp2
  go_ret
  refine ⟨congrArg (fun z => Ending.returned (.int .u32 z)) ?_, _, rfl⟩
  rw [← HR.out]
  omega
theorem rturn13 (x : Nat) (w : World) (hx : x < 4294967296) :
    Calls Tryz.prog 85 #[.int .u32 x, .int .i64 13] w fun e w' => e = .returned (.int .u32 (rotN x 13 : Nat)) ∧ ∃ n, w' = w.drewN n := by
  have hr := rturn_eq x 13 hx (by decide) (by decide)
  unfold rturn at hr
  have HR := hide hr
  clear hr
  go_enter Tryz.func85, Tryz.ntmps85
  go_wp2_with fail
  go_quiet (fail)
  go_wp2
  go_ret
  refine ⟨congrArg (fun z => Ending.returned (.int .u32 z)) ?_, _, rfl⟩
  rw [← HR.out]
  omega
theorem rturn17 (x : Nat) (w : World) (hx : x < 4294967296) :
    Calls Tryz.prog 85 #[.int .u32 x, .int .i64 17] w fun e w' => e = .returned (.int .u32 (rotN x 17 : Nat)) ∧ ∃ n, w' = w.drewN n := by
  have hr := rturn_eq x 17 hx (by decide) (by decide)
  unfold rturn at hr
  have HR := hide hr
  clear hr
  go_enter Tryz.func85, Tryz.ntmps85
  go_wp2_with fail
  go_quiet (fail)
  go_wp2
  go_ret
  refine ⟨congrArg (fun z => Ending.returned (.int .u32 z)) ?_, _, rfl⟩
  rw [← HR.out]
  omega
theorem rturn18 (x : Nat) (w : World) (hx : x < 4294967296) :
    Calls Tryz.prog 85 #[.int .u32 x, .int .i64 18] w fun e w' => e = .returned (.int .u32 (rotN x 18 : Nat)) ∧ ∃ n, w' = w.drewN n := by
  have hr := rturn_eq x 18 hx (by decide) (by decide)
  unfold rturn at hr
  have HR := hide hr
  clear hr
  go_enter Tryz.func85, Tryz.ntmps85
  go_wp2_with fail
  go_quiet (fail)
  go_wp2
  go_ret
  refine ⟨congrArg (fun z => Ending.returned (.int .u32 z)) ?_, _, rfl⟩
  rw [← HR.out]
  omega
theorem rturn19 (x : Nat) (w : World) (hx : x < 4294967296) :
    Calls Tryz.prog 85 #[.int .u32 x, .int .i64 19] w fun e w' => e = .returned (.int .u32 (rotN x 19 : Nat)) ∧ ∃ n, w' = w.drewN n := by
  have hr := rturn_eq x 19 hx (by decide) (by decide)
  unfold rturn at hr
  have HR := hide hr
  clear hr
  go_enter Tryz.func85, Tryz.ntmps85
  go_wp2_with fail
  go_quiet (fail)
  go_wp2
  go_ret
  refine ⟨congrArg (fun z => Ending.returned (.int .u32 z)) ?_, _, rfl⟩
  rw [← HR.out]
  omega
theorem rturn22 (x : Nat) (w : World) (hx : x < 4294967296) :
    Calls Tryz.prog 85 #[.int .u32 x, .int .i64 22] w fun e w' => e = .returned (.int .u32 (rotN x 22 : Nat)) ∧ ∃ n, w' = w.drewN n := by
  have hr := rturn_eq x 22 hx (by decide) (by decide)
  unfold rturn at hr
  have HR := hide hr
  clear hr
  go_enter Tryz.func85, Tryz.ntmps85
  go_wp2_with fail
  go_quiet (fail)
  go_wp2
  go_ret
  refine ⟨congrArg (fun z => Ending.returned (.int .u32 z)) ?_, _, rfl⟩
  rw [← HR.out]
  omega
theorem rturn25 (x : Nat) (w : World) (hx : x < 4294967296) :
    Calls Tryz.prog 85 #[.int .u32 x, .int .i64 25] w fun e w' => e = .returned (.int .u32 (rotN x 25 : Nat)) ∧ ∃ n, w' = w.drewN n := by
  have hr := rturn_eq x 25 hx (by decide) (by decide)
  unfold rturn at hr
  have HR := hide hr
  clear hr
  go_enter Tryz.func85, Tryz.ntmps85
  go_wp2_with fail
  go_quiet (fail)
  go_wp2
  go_ret
  refine ⟨congrArg (fun z => Ending.returned (.int .u32 z)) ?_, _, rfl⟩
  rw [← HR.out]
  omega
set_option maxHeartbeats 2000000 in
set_option maxRecDepth 100000 in
theorem k_any (i : Nat) (w : World) (hi : i < 64) :
    Calls Tryz.prog 86 #[.int .i64 i] w fun e w' => e = .returned (.int .u32 (kL.getD i 0 : Nat)) ∧ Below w.heap.size w w' := by
  have hc : (w.alloc (.cells #[.int .u32 1116352408, .int .u32 1899447441, .int .u32 3049323471, .int .u32 3921009573, .int .u32 961987163, .int .u32 1508970993, .int .u32 2453635748, .int .u32 2870763221, .int .u32 3624381080, .int .u32 310598401, .int .u32 607225278, .int .u32 1426881987, .int .u32 1925078388, .int .u32 2162078206, .int .u32 2614888103, .int .u32 3248222580, .int .u32 3835390401, .int .u32 4022224774, .int .u32 264347078, .int .u32 604807628, .int .u32 770255983, .int .u32 1249150122, .int .u32 1555081692, .int .u32 1996064986, .int .u32 2554220882, .int .u32 2821834349, .int .u32 2952996808, .int .u32 3210313671, .int .u32 3336571891, .int .u32 3584528711, .int .u32 113926993, .int .u32 338241895, .int .u32 666307205, .int .u32 773529912, .int .u32 1294757372, .int .u32 1396182291, .int .u32 1695183700, .int .u32 1986661051, .int .u32 2177026350, .int .u32 2456956037, .int .u32 2730485921, .int .u32 2820302411, .int .u32 3259730800, .int .u32 3345764771, .int .u32 3516065817, .int .u32 3600352804, .int .u32 4094571909, .int .u32 275423344, .int .u32 430227734, .int .u32 506948616, .int .u32 659060556, .int .u32 883997877, .int .u32 958139571, .int .u32 1322822218, .int .u32 1537002063, .int .u32 1747873779, .int .u32 1955562222, .int .u32 2024104815, .int .u32 2227730452, .int .u32 2361852424, .int .u32 2428436474, .int .u32 2756734187, .int .u32 3204031479, .int .u32 3329325298] 28)).cell? ⟨w.heap.size, i, none⟩ = some (.int .u32 (kL.getD i 0 : Nat)) := by
    have := (Blk.new w 28 (cellsW kL).toArray).cell i
    rw [List.getElem?_toArray, cellsW_at kL i hi] at this
    exact this
  have hb : Below w.heap.size w (w.alloc (.cells #[.int .u32 1116352408, .int .u32 1899447441, .int .u32 3049323471, .int .u32 3921009573, .int .u32 961987163, .int .u32 1508970993, .int .u32 2453635748, .int .u32 2870763221, .int .u32 3624381080, .int .u32 310598401, .int .u32 607225278, .int .u32 1426881987, .int .u32 1925078388, .int .u32 2162078206, .int .u32 2614888103, .int .u32 3248222580, .int .u32 3835390401, .int .u32 4022224774, .int .u32 264347078, .int .u32 604807628, .int .u32 770255983, .int .u32 1249150122, .int .u32 1555081692, .int .u32 1996064986, .int .u32 2554220882, .int .u32 2821834349, .int .u32 2952996808, .int .u32 3210313671, .int .u32 3336571891, .int .u32 3584528711, .int .u32 113926993, .int .u32 338241895, .int .u32 666307205, .int .u32 773529912, .int .u32 1294757372, .int .u32 1396182291, .int .u32 1695183700, .int .u32 1986661051, .int .u32 2177026350, .int .u32 2456956037, .int .u32 2730485921, .int .u32 2820302411, .int .u32 3259730800, .int .u32 3345764771, .int .u32 3516065817, .int .u32 3600352804, .int .u32 4094571909, .int .u32 275423344, .int .u32 430227734, .int .u32 506948616, .int .u32 659060556, .int .u32 883997877, .int .u32 958139571, .int .u32 1322822218, .int .u32 1537002063, .int .u32 1747873779, .int .u32 1955562222, .int .u32 2024104815, .int .u32 2227730452, .int .u32 2361852424, .int .u32 2428436474, .int .u32 2756734187, .int .u32 3204031479, .int .u32 3329325298] 28)) := (Frm.alloc w _ (fun _ => False)).below (Nat.le_refl _) (fun _ h => h.elim)
  generalize kL.getD i 0 = v at *
  go_enter Tryz.func86, Tryz.ntmps86
  go_wp2_with fail
  go_ret
  exact ⟨rfl, hb⟩
set_option maxHeartbeats 2000000 in
set_option maxRecDepth 100000 in
theorem h_any (i : Nat) (w : World) (hi : i < 8) :
    Calls Tryz.prog 84 #[.int .i64 i] w fun e w' => e = .returned (.int .u32 (firstL.getD i 0 : Nat)) ∧ Below w.heap.size w w' := by
  have hc : (w.alloc (.cells #[.int .u32 1779033703, .int .u32 3144134277, .int .u32 1013904242, .int .u32 2773480762, .int .u32 1359893119, .int .u32 2600822924, .int .u32 528734635, .int .u32 1541459225] 28)).cell? ⟨w.heap.size, i, none⟩ = some (.int .u32 (firstL.getD i 0 : Nat)) := by
    have := (Blk.new w 28 (cellsW firstL).toArray).cell i
    rw [List.getElem?_toArray, cellsW_at firstL i hi] at this
    exact this
  have hb : Below w.heap.size w (w.alloc (.cells #[.int .u32 1779033703, .int .u32 3144134277, .int .u32 1013904242, .int .u32 2773480762, .int .u32 1359893119, .int .u32 2600822924, .int .u32 528734635, .int .u32 1541459225] 28)) := (Frm.alloc w _ (fun _ => False)).below (Nat.le_refl _) (fun _ h => h.elim)
  generalize firstL.getD i 0 = v at *
  go_enter Tryz.func84, Tryz.ntmps84
  go_wp2_with fail
  go_ret
  exact ⟨rfl, hb⟩
theorem one_u32 : One Tryz.prog 151 28 (.int .u32 0) 4 := One.of (by kernel_rfl) (by kernel_rfl) rfl
/-- append onto a row of one's own: what was there can still be read where it was. -/
theorem append_keeps {P : Program} {t e : TypeId} {z : Value} {bytes : Nat} (o : One P t e z bytes) (ty : TypeId) (w : World) (base g n cap : Nat) (xs : List Value) (hown : w.ownsRow base e 1 (.slice (some ⟨g, 0, none⟩) n cap) n xs)
    (a : Addr) (m c : Nat) (news : List Value) (hl : news.length = m) (hc : ∀ j u, news[j]? = some u → w.cell? (a.add j) = some u) (h1 : ∀ u ∈ news, u.oneCell' = true) (hsm : (n + m) * bytes ≤ 140737488355328) (hsl : n + m ≤ 140737488355328)
    (v' : Value) (w' : World) (hrun : (Builtin.append_ #[t, t] ty #[.slice (some ⟨g, 0, none⟩) n cap, .slice (some a) m c]).run P w = .ok v' w') (j : Nat) (hj : j < n) : w'.cell? ⟨g, j, none⟩ = w.cell? ⟨g, j, none⟩ := by
  obtain ⟨i, hi, hz, hs, hby⟩ := o.info
  rcases hown.2 with ⟨h, _⟩ | ⟨g', cap', cur, hv, hbg, hg, hnc, hcm, hcs, htake⟩
  · cases h
  · injection hv with h1' h2' h3'
    injection h1' with h1'
    injection h1' with h1'
    subst h1' h3'
    by_cases hroom : n + m ≤ cap
    · have hfit : n * i.size + news.length ≤ cur.size := by rw [hl, hcs, hs]; omega
      have hr := run_append_room (P := P) w t ty e i o.slice hi g n cap cur hg a m c news (by rw [hl, hs, Nat.mul_one]) hc h1 hroom hfit
      rw [hr] at hrun
      injection hrun with _ hw
      rw [← hw, cell_of_row _ g j _ e _ (setRow_heap w g cur _ e _ hg), cell_of_row w g j cur e _ hg, hs, Nat.mul_one]
      have hjc : j < cur.toList.length := by rw [Array.length_toList, hcs]; omega
      simp only [List.append_assoc, List.getElem?_toArray]
      rw [List.getElem?_append_left (by rw [List.length_take]; omega), List.getElem?_take, if_pos hj]
      simp
    · have holds : ∀ k u, xs[k]? = some u → w.cell? ((⟨g, 0, none⟩ : Addr).add k) = some u := hown.cells (g := g) rfl
      have hr := run_append_grow (P := P) w t ty e i z o.slice hi hz ⟨g, 0, none⟩ n cap xs (by rw [hown.1, hs]) holds a m c news (by rw [hl, hs, Nat.mul_one]) hc (by omega) (by omega) (growslice_fits (by omega) (by rw [hby]; exact hsm))
      rw [hr] at hrun
      injection hrun with _ hw
      rw [← hw]
      have hlt : g < w.heap.size := (Array.getElem?_eq_some_iff.1 hg).1
      have := (Frm.alloc w.drew (.cells (xs.toArray ++ news.toArray ++ Builtin.zeroCells z.cells (grownCap w (n + m) cap e - (n + m))) e) (fun _ => False)).block g hlt (fun h => h)
      simp only [World.cell?, this]
      rfl
/-- append of one word onto a row of one's own, in a region. -/
theorem step_app32 {ops : Array Oper} {op : Oper} {a : Act} {K : Act → World → Prop} {Q : Exit → Act → World → Prop} {E : Prop} (hw : Region.wanted op (yielded ops a.tmps) = true) (s x : Operand)
    (ho : op.op = .call { callee := .builtin .append, args := #[s, x], argTypes := #[151, 151] }) (w : World) (base g n cap : Nat) (xs : List Value) (hs : a.eval s = .slice (some ⟨g, 0, none⟩) n cap) (hown : w.ownsRow base 28 1 (.slice (some ⟨g, 0, none⟩) n cap) n xs)
    (ad : Addr) (m c : Nat) (news : List Value) (hx : a.eval x = .slice (some ad) m c) (hl : news.length = m) (hc : ∀ j u, news[j]? = some u → w.cell? (ad.add j) = some u) (h1 : ∀ u ∈ news, u.oneCell' = true) (hsm : (n + m) * 4 ≤ 140737488355328) (hb : base ≤ w.heap.size)
    (h : ∀ A' c' w', w'.ownsRow base 28 1 (.slice A' (n + m) c') (n + m) (xs ++ news) → w.grownBy w' (some g) → (∀ j, j < n → w'.cell? ⟨g, j, none⟩ = w.cell? ⟨g, j, none⟩) → K (a.put op.dst (.slice A' (n + m) c')) w') :
    if Region.wanted op (yielded ops a.tmps) = true then Oper.wp Tryz.prog op a w K Q else E := by
  rw [if_pos hw]
  have hr : Rds w (some ad) m news := ⟨hl, fun _ => ⟨ad, rfl, hc⟩⟩
  obtain ⟨v', w', hrun, h2, h3, h4⟩ := run_app one_u32 op.type w base (.slice (some ⟨g, 0, none⟩) n cap) n xs hown (some ad) m c news hr h1 hsm (by omega) hb
  have hk := append_keeps one_u32 op.type w base g n cap xs hown ad m c news hl hc h1 hsm (by omega) v' w' hrun
  obtain ⟨A', c', rfl⟩ := own_form h2
  unfold Oper.wp execOp
  simp only [ho, resolve, invoke, builtin, Sem.run_bind, Sem.run_pure, Result.andThen_ok, List.map_toArray, List.map_cons, List.map_nil, hs, hx, hrun]
  exact h A' c' w' h2 h3 hk
theorem ad_swap (a b c : Nat) : ad (ad a b) c = ad (ad a c) b := by unfold ad; omega
theorem plus_swap (a r f : List Nat) : plus (plus a r) f = plus (plus a f) r := by
  induction a generalizing r f with
  | nil => simp [plus]
  | cons x a ih =>
    cases r with
    | nil => cases f <;> simp [plus]
    | cons y r =>
      cases f with
      | nil => simp [plus]
      | cons z f =>
        have := ih r f
        simp only [plus, List.zipWith_cons_cons] at this ⊢
        rw [this, ad_swap]
/-- H behind q blocks. -/
def hqL (p : List UInt8) (q : Nat) : List Nat := plus (addedN p q) firstL
theorem hqL_zero (p : List UInt8) : hqL p 0 = firstL := by unfold hqL addedN; decide
theorem hqL_succ (p : List UInt8) (q : Nat) : hqL p (q + 1) = plus (hqL p q) (rounds (schedN ((p.drop (64 * q)).take 64)) 64 (S8.of (hqL p q))).list := by
  unfold hqL
  rw [addedN, addB, plus_swap]
theorem hqL_length (p : List UInt8) (q : Nat) : (hqL p q).length = 8 := by unfold hqL; rw [plus_length _ _ (by rw [addedN_length]; rfl), addedN_length]
theorem hqL_ws (p : List UInt8) (q : Nat) : Ws (hqL p q) := plus_ws _ _
theorem words_at (b : List UInt8) (k : Nat) (h : k < 16) : (words b).take (k + 1) = (words b).take k ++ [num ((b.drop (4 * k)).take 4)] := by
  rw [List.take_succ_eq_append_getElem (by rw [words_length]; exact h)]
  simp [words]
theorem sched_take (b : List UInt8) (k : Nat) (h1 : 16 ≤ k) (h2 : k < 64) : (schedN b).take (k + 1) = (schedN b).take k ++ [wNext (schedN b) k] := by
  rw [List.take_add_one, schedN_at b k h1 h2]
  rfl
theorem sched_take16 (b : List UInt8) : (schedN b).take 16 = words b := by
  apply List.ext_getElem?
  intro i
  rw [List.getElem?_take]
  split
  · exact schedN_low b i (by assumption)
  · rw [List.getElem?_eq_none (by rw [words_length]; omega)]
end Go.Proofs.YtoiiiflnnhkjbaaGreatDoor
