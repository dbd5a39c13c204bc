/-
  The document's block of ChaCha20.
-/
import Derived.Test.YtjdffceeinflcaaDoorCT2
namespace Go.Proofs.YtjdffceeinflcaaDoor
set_option linter.unusedVariables false
open Go.RowKit

theorem own_ge {w : World} {base n : Nat} {e : TypeId} {v : Value} {xs : List Value} (h : w.ownsRow base e 1 v n xs) (k : Nat) (hk : some k = v.ownBlock) : base ≤ k := by
  rcases h.2 with ⟨rfl, _⟩ | ⟨g, cap, cur, rfl, hb, _⟩
  · cases hk
  · have : k = g := by simpa [Value.ownBlock] using hk
    omega
theorem own_alloc {w : World} {base n : Nat} {e : TypeId} {v : Value} {xs : List Value} (h : w.ownsRow base e 1 v n xs) (o : Obj) : (w.alloc o).ownsRow base e 1 v n xs := own_frm h (Frm.alloc w o (fun _ => False)) (fun _ _ h => h)
theorem chaAll_length (key : List UInt8) (ctr : Nat) (nonce : List UInt8) (hk : key.length = 32) (hn : nonce.length = 12) : (chaAll key ctr nonce).length = 64 := by
  rw [chaAll, List.length_append, List.length_append, List.length_append, hk, hn, le4_length]
  rfl
theorem words_take (S : List Nat) (k : Nat) (h : k < S.length) : cellsW (S.take k) ++ [.int .u32 ((S.getD k 0 : Nat) : Int)] = cellsW (S.take (k + 1)) := by
  rw [List.take_succ_eq_append_getElem h, cellsW_append, List.getD_eq_getElem?_getD, List.getElem?_eq_getElem h]
  rfl

structure RInv (w : World) (A1 As : Option Addr) (S M : List Nat) (W : World) : Prop where
  first : Rds W A1 16 (cellsW S)
  now : Rds W As 16 (cellsW M)
  below : Below w.heap.size w W
theorem RInv.of_below {w : World} {A1 As : Option Addr} {S M : List Nat} {W W' : World} (h : RInv w A1 As S M W) (hb : Below W.heap.size W W') : RInv w A1 As S M W' :=
  ⟨h.first.below hb, h.now.below hb, h.below.trans (hb.mono h.below.size)⟩
theorem Rds.at {w : World} {A : Option Addr} {M : List Nat} (h : Rds w A 16 (cellsW M)) : ∃ a, A = some a ∧ ∀ k, k < 16 → w.cell? (a.add k) = some (.int .u32 ((M.getD k 0 : Nat) : Int)) := by
  obtain ⟨a, rfl, hc⟩ := h.2 (by omega)
  have hl : M.length = 16 := by have := h.1; rwa [cellsW_length] at this
  exact ⟨a, rfl, fun k hk => hc k _ (cellsW_at M k (by omega))⟩

set_option maxHeartbeats 16000000 in
set_option maxRecDepth 100000 in
theorem rblock_any (key nonce : List UInt8) (ctr : Nat) (w : World) (hk : key.length = 32) (hno : nonce.length = 12) (hc : ctr < 4294967296) :
    Calls Tryd.prog 12 #[.string ⟨key.toArray⟩, .int .u32 (ctr : Int), .string ⟨nonce.toArray⟩] w fun e w' => e = .returned (.string ⟨(chaL key ctr nonce).toArray⟩) ∧ Below w.heap.size w w' := by
  obtain ⟨sk, hsk⟩ : ∃ sk, sk = (⟨key.toArray⟩ : ByteArray) := ⟨_, rfl⟩
  obtain ⟨sn, hsn⟩ : ∃ sn, sn = (⟨nonce.toArray⟩ : ByteArray) := ⟨_, rfl⟩
  obtain ⟨sc, hsc⟩ : ∃ sc, sc = (⟨(be 4 ctr).toArray⟩ : ByteArray) := ⟨_, rfl⟩
  obtain ⟨sl, hsl⟩ : ∃ sl, sl = (⟨(le4 ctr).toArray⟩ : ByteArray) := ⟨_, rfl⟩
  obtain ⟨s1, hs1⟩ : ∃ s1, s1 = (⟨(expandL ++ key).toArray⟩ : ByteArray) := ⟨_, rfl⟩
  obtain ⟨s2, hs2⟩ : ∃ s2, s2 = (⟨(expandL ++ key ++ le4 ctr).toArray⟩ : ByteArray) := ⟨_, rfl⟩
  obtain ⟨s3, hs3⟩ : ∃ s3, s3 = (⟨(chaAll key ctr nonce).toArray⟩ : ByteArray) := ⟨_, rfl⟩
  have a1 : (⟨#[101, 120, 112, 97, 110, 100, 32, 51, 50, 45, 98, 121, 116, 101, 32, 107]⟩ : ByteArray) ++ sk = s1 := by rw [hsk, hs1]; exact txt_append expandL key
  have a2 : s1 ++ sl = s2 := by rw [hs1, hsl, hs2]; exact txt_append _ _
  have a3 : s2 ++ sn = s3 := by rw [hs2, hsn, hs3]; exact txt_append _ _
  have z0 : sk.size = 32 := by rw [hsk, txt_size, hk]
  have z1 : s1.size = 48 := by rw [hs1, txt_size, List.length_append, hk]; rfl
  have z2 : s2.size = 52 := by rw [hs2, txt_size, List.length_append, List.length_append, hk, le4_length]; rfl
  have z3 : sl.size = 4 := by rw [hsl, txt_size, le4_length]
  have z4 : sn.size = 12 := by rw [hsn, txt_size, hno]
  have ze : (⟨#[101, 120, 112, 97, 110, 100, 32, 51, 50, 45, 98, 121, 116, 101, 32, 107]⟩ : ByteArray).size = 16 := rfl
  have hu : IntKind.u64.wrap (ctr : Int) = (ctr : Int) := by rw [IntKind.wrap_u64]; omega
  have HTX : Hid (∀ W, Calls Tryd.prog 21 #[.int .u64 (ctr : Int), .int .i64 4] W fun e w' => e = .returned (.string sc) ∧ Below W.heap.size W w') := by rw [hsc]; exact fun W => text_any ctr 4 W (by omega) (by omega)
  have HTU : Hid (∀ W, Calls Tryd.prog 20 #[.string sc] W fun e w' => e = .returned (.string sl) ∧ W = w') := by rw [hsc, hsl]; exact fun W => rturned_any (be 4 ctr) W (by rw [be_length]; omega)
  have HAL := hide (chaAll_length key ctr nonce hk hno)
  have HSL := hide (chaWords_length (chaAll key ctr nonce))
  have HSW := hide (chaWords_ws (chaAll key ctr nonce))
  obtain ⟨al, hal⟩ : ∃ al, al = chaAll key ctr nonce := ⟨_, rfl⟩
  have HCH : Hid (chaL key ctr nonce = (plus (tensL (chaWords al) 10) (chaWords al)).flatMap le4) := by show _ = _; rw [hal, chaL, plus]
  rw [← hal] at HAL HSL HSW hs3
  have HGT : Hid (∀ (k : Nat), k < 16 → (chaWords al).getD k 0 = lowN ((al.drop (4 * k)).take 4)) := fun k hk => by rw [List.getD_eq_getElem?_getD, chaWords_get _ _ hk]; rfl
  have HST : Hid (∀ (k : Nat), k < 16 → ∀ w, Sem.run Tryd.prog (Instr.sliceAt 9 (.string s3) (some (.int .i64 (4 * (k : Int)))) (some (.int .i64 (4 * (k : Int) + 4))) none) w = .ok (.string ⟨((al.drop (4 * k)).take 4).toArray⟩) w) := fun k hk w => by
    have := slice_text al (4 * k) (4 * k + 4) (by omega) (by rw [HAL.out]; omega) w
    rw [show 4 * k + 4 - 4 * k = 4 by omega, ← hs3] at this
    exact this
  have HLO : Hid (∀ (k : Nat), k < 16 → ∀ W, Calls Tryd.prog 22 #[.string ⟨((al.drop (4 * k)).take 4).toArray⟩] W fun e w' => e = .returned (.int .u32 ((chaWords al).getD k 0 : Nat)) ∧ ∃ q, w' = W.drewN q) := fun k hk W => by
    rw [HGT.out k hk]
    exact rlow_any _ W (by rw [List.length_take, List.length_drop, HAL.out]; omega)
  obtain ⟨TN, hTN⟩ : ∃ TN, TN = tensL (chaWords al) := ⟨_, rfl⟩
  obtain ⟨S, hS⟩ : ∃ S, S = chaWords al := ⟨_, rfl⟩
  rw [← hS] at HSL HSW HLO hTN
  rw [← hS] at HCH
  rw [← hTN] at HCH
  have HT0 : Hid (TN 0 = S) := by rw [hTN]; rfl
  have HTL : Hid (∀ n, (TN n).length = 16) := by rw [hTN]; intro n; rw [tensL_length, HSL.out]
  have HTW : Hid (∀ n, Ws (TN n)) := by
    rw [hTN]
    intro n
    rw [← mixL_eq _ HSL.out]
    exact mixL_ws HSW.out n
  have HTS : Hid (∀ n, TN (n + 1) = slantL (downL (TN n) 4) 4) := by rw [hTN]; intro n; rw [tensL]
  rw [HCH.out, ← hsk, ← hsn]
  clear hsk hsn hsc hsl hs1 hs2 hs3 hk hno hc hal hTN hS HGT HCH
  go_enter Tryd.func12, Tryd.ntmps12
  go_wp2_with fail
  refine (HTX.out w).mono ?_
  rintro e w1 ⟨rfl, hb1⟩
  go_wp2_with fail
  refine (HTU.out w1).mono ?_
  rintro e w1' ⟨rfl, rfl⟩
  have own0 : (w1.alloc (.cells #[] 24)).ownsRow w.heap.size 24 1 (.slice (some ⟨w1.heap.size, 0, none⟩) 0 0) 0 [] := World.ownsRow_made w1 #[] 0 hb1.size (by simp [maxLen]) (by simp)
  have HS0 : Hid ((w1.alloc (.cells #[] 24)).ownsRow w.heap.size 24 1 (.slice (some ⟨w1.heap.size, 0, none⟩) 0 0) 0 (cellsW (S.take 0)) ∧ Below w.heap.size w (w1.alloc (.cells #[] 24))) := ⟨own0, hb1.alloc hb1.size _⟩
  clear own0 hb1 HTX HTU
  go_wp2_with fail
  clear a1 a2 a3 z0 z1 z2 z3 z4 ze hu
  go_loopw [8, 9] (fun v i wr => ∃ (k : Nat) (A : Option Addr) (c : Nat), k ≤ 16 ∧ i = .int .i64 (4 * (k : Int)) ∧ v = .slice A k c ∧ wr.ownsRow w.heap.size 24 1 (.slice A k c) k (cellsW (S.take k)) ∧ Below w.heap.size w wr) (fun _ i _ => 64 - (intOf i).toNat)
  case atStart => exact ⟨0, _, _, by omega, rfl, rfl, HS0.out⟩
  case round =>
    clear HS0
    obtain ⟨k, A, c, hk, rfl, rfl, hown, hbel⟩ := hrel
    by_cases hlt : k < 16
    · have hst := HST.out k hlt
      have hw4 : IntKind.i64.wrap (4 * (k : Int) + 4) = 4 * (k : Int) + 4 := IntWalk.i64_in _ (by omega)
      have HLK := hide (HLO.out k hlt)
      have HWT := hide (words_take S k (by rw [HSL.out]; exact hlt))
      generalize (⟨((al.drop (4 * k)).take 4).toArray⟩ : ByteArray) = sp at *
      generalize S.getD k 0 = x at *
      have HOWN := hide hown
      have HBEL := hide hbel
      clear hown hbel
      go_wp2_with fail
      refine (HLK.out wr).mono ?_
      rintro e wq' ⟨rfl, q, rfl⟩
      obtain ⟨wq, hwq⟩ : ∃ wq, wq = wr.drewN q := ⟨_, rfl⟩
      have own1 : (wq.alloc (.cells #[.int .u32 (x : Int)] 24)).ownsRow w.heap.size 24 1 (.slice A k c) k (cellsW (S.take k)) := by rw [hwq]; exact own_alloc (own_drewN HOWN.out) _
      have rd1 : Rds (wq.alloc (.cells #[.int .u32 (x : Int)] 24)) (some ⟨wq.heap.size, 0, none⟩) 1 [.int .u32 (x : Int)] := Rds.new1 _ _ _
      have bel1 : Below w.heap.size w wq := by rw [hwq]; exact below_drewN HBEL.out q
      have HB1 := hide (bel1.alloc bel1.size (.cells #[.int .u32 (x : Int)] 24))
      have hsz1 : w.heap.size ≤ (wq.alloc (.cells #[.int .u32 (x : Int)] 24)).heap.size := HB1.out.size
      have h11 := one1 .u32 (x : Int)
      rw [← hwq]
      clear hwq bel1 HOWN HBEL HLK
      have hk1 : (k + 1) * 4 ≤ 140737488355328 := by omega
      have hk2 : k + 1 ≤ 140737488355328 := by omega
      go_wp2_with (at_builtin; refine wpl_app one_u32 rfl (.tmp 30) (.tmp 37) rfl _ w.heap.size _ k (cellsW (S.take k)) rfl own1 (some ⟨wq.heap.size, 0, none⟩) 1 1 [.int .u32 (x : Int)] rfl rd1 h11 hk1 hk2 hsz1 ?_; intro A2 c2 w2 hown2 hg2 hat2)
      have FIN : Hid (w2.ownsRow w.heap.size 24 1 (.slice A2 (k + 1) c2) (k + 1) (cellsW (S.take (k + 1))) ∧ Below w.heap.size w w2) := by
        rw [HWT.out] at hown2
        exact ⟨hown2, below_frm HB1.out (Frm.of_grown hg2) HB1.out.size (fun i hi => own_ge own1 i hi)⟩
      clear hown2 hg2 hat2 own1 rd1
      have he : 4 * (k : Int) + 4 = 4 * ((k + 1 : Nat) : Int) := by omega
      go_roundw
      case rel => first | exact ⟨k + 1, _, _, by omega, by rw [← he], rfl, FIN.out⟩ | ((repeat apply Exists.intro); exact ⟨⟨k + 1, _, _, by omega, by rw [← he], rfl, FIN.out⟩, rfl⟩)
      case measure => simp [intOf]; omega
    · obtain rfl : k = 16 := by omega
      rw [List.take_of_length_le (by rw [HSL.out]; exact Nat.le_refl _)] at hown
      have rd := (Seg.of_own (xs := cellsW S) (by rw [show (16 : Nat) = (cellsW S).length by rw [cellsW_length, HSL.out]] at hown; exact hown)).rds
      rw [cellsW_length, HSL.out] at rd
      have FA : Frm (fun _ => False) wr (wr.alloc (.cells #[] 24)) := Frm.alloc _ _ _
      have rd1 := rd.frm FA (fun _ _ _ h => h)
      have HSL' := HSL.out
      have h16 : (64 : Int) = 4 * ((16 : Nat) : Int) := by omega
      clear FA
      go_wp2_with (at_builtin; refine wpl_app one_u32 rfl (.tmp 39) (.tmp 40) rfl _ wr.heap.size _ 0 [] rfl (World.ownsRow_made wr #[] 0 (Nat.le_refl _) (by simp [maxLen]) (by simp)) A 16 c (cellsW S) rfl rd1 (cellsW_one S) (by omega) (by omega) (by simp) ?_; intro A3 c3 w3 hown3 hg3 hat3; have p3 := app_madeW HSL' hown3 hg3)
      obtain ⟨gs, rfl, ow3, hgs, F3⟩ := p3
      have HI0 : Hid (RInv w A (some ⟨gs, 0, none⟩) S (TN 0) w3) := by
        rw [HT0.out]
        exact ⟨rd.frm F3 (fun _ _ _ h => h), ow3.rds HSL.out, below_frm hbel F3 hbel.size (fun _ h => h.elim)⟩
      clear hown hbel rd rd1 hown3 hg3 hat3 ow3 F3 HST HLO h16 HSL'
      go_loopw [10, 11] (fun v i wr => ∃ (n : Nat) (As : Option Addr) (cs : Nat), n ≤ 10 ∧ i = .int .i64 (n : Int) ∧ v = .slice As 16 cs ∧ RInv w A As S (TN n) wr) (fun _ i _ => 10 - (intOf i).toNat)
      case atStart => exact ⟨0, _, _, by omega, rfl, rfl, HI0.out⟩
      case round =>
        clear HI0
        obtain ⟨n, As, cs, hn, rfl, rfl, hi⟩ := hrel
        by_cases hlt : n < 10
        · obtain ⟨DN, hDN⟩ : ∃ DN, DN = downL (TN n) := ⟨_, rfl⟩
          have HD0 : Hid (DN 0 = TN n) := by rw [hDN]; rfl
          have HDE : Hid (∀ k, k ≤ 4 → DN k = eightL (TN n) k) := by rw [hDN]; exact fun k hk => down_eight _ (HTL.out n) k hk
          have HDL : Hid (∀ k, (DN k).length = 16) := by rw [hDN]; intro k; rw [downL_length, HTL.out]
          have HDW : Hid (∀ k, k ≤ 4 → Ws (DN k)) := fun k hk => by rw [HDE.out k hk]; exact eightL_ws (HTW.out n) _
          have HDS : Hid (∀ k, DN (k + 1) = quarterL (DN k) k (4 + k) (8 + k) (12 + k)) := by rw [hDN]; intro k; rw [downL]
          obtain ⟨SN, hSN⟩ : ∃ SN, SN = slantL (DN 4) := ⟨_, rfl⟩
          have HS0 : Hid (SN 0 = DN 4) := by rw [hSN]; rfl
          have HSL2 : Hid (∀ k, (SN k).length = 16) := by rw [hSN]; intro k; rw [slantL_length, HDL.out]
          have HSW2 : Hid (∀ k, k ≤ 4 → Ws (SN k)) := fun k hk => by
            rw [hSN, HDE.out 4 (by omega), slant_eight _ (HTL.out n) k hk]
            exact eightL_ws (HTW.out n) _
          have HSS : Hid (∀ k, SN (k + 1) = quarterL (SN k) k (4 + (k + 1) % 4) (8 + (k + 2) % 4) (12 + (k + 3) % 4)) := by rw [hSN]; intro k; rw [slantL]
          have HSE : Hid (TN (n + 1) = SN 4) := by show _ = _; rw [hSN, hDN]; exact HTS.out n
          have HI1 : Hid (RInv w A As S (DN 0) wr) := by rw [HD0.out]; exact hi
          have hlt' : (n : Int) < 10 := by omega
          clear hDN hSN hi HDE HD0
          go_wp2_with fail
          go_loopw [10, 12] (fun v i wr => ∃ (k : Nat) (As : Option Addr) (cs : Nat), k ≤ 4 ∧ i = .int .i64 (k : Int) ∧ v = .slice As 16 cs ∧ RInv w A As S (DN k) wr) (fun _ i _ => 4 - (intOf i).toNat)
          case atStart => exact ⟨0, _, _, by omega, rfl, rfl, HI1.out⟩
          case round =>
            clear HI1
            obtain ⟨k, As, cs, hk, rfl, rfl, hi⟩ := hrel
            by_cases hkt : k < 4
            · have w1' : IntKind.i64.wrap (4 + (k : Int)) = 4 + (k : Int) := IntWalk.i64_in _ (by omega)
              have w2' : IntKind.i64.wrap (8 + (k : Int)) = 8 + (k : Int) := IntWalk.i64_in _ (by omega)
              have w3' : IntKind.i64.wrap (12 + (k : Int)) = 12 + (k : Int) := IntWalk.i64_in _ (by omega)
              have HQ : Hid (Calls Tryd.prog 23 #[.slice As 16 cs, .int .i64 (k : Int), .int .i64 (4 + (k : Int)), .int .i64 (8 + (k : Int)), .int .i64 (12 + (k : Int))] wr fun e w' => ∃ A' c', e = .returned (.slice A' 16 c') ∧ Rds w' A' 16 (cellsW (DN (k + 1))) ∧ Below wr.heap.size wr w') := by
                rw [HDS.out]
                exact rquarter_any As cs (DN k) k (4 + k) (8 + k) (12 + k) wr hi.now (HDL.out k) (HDW.out k hk) (by omega) (by omega) (by omega) (by omega)
              have HI := hide hi
              clear hi
              go_wp2_with fail
              refine HQ.out.mono ?_
              rintro e w5 ⟨A5, c5, rfl, rd5, hb5⟩
              have FIN : Hid (RInv w A A5 S (DN (k + 1)) w5) := ⟨HI.out.first.below hb5, rd5, HI.out.below.trans (hb5.mono HI.out.below.size)⟩
              clear HI rd5 hb5 HQ
              go_wp2_with fail
              go_roundw
              case rel => first | exact ⟨k + 1, _, _, by omega, by go_num, rfl, FIN.out⟩ | ((repeat apply Exists.intro); exact ⟨⟨k + 1, _, _, by omega, by go_num, rfl, FIN.out⟩, rfl⟩)
              case measure => simp [intOf]; omega
            · obtain rfl : k = 4 := by omega
              have HI2 : Hid (RInv w A As S (SN 0) wr) := by rw [HS0.out]; exact hi
              clear hi
              go_wp2_with fail
              go_loopw [10, 13] (fun v i wr => ∃ (k : Nat) (As : Option Addr) (cs : Nat), k ≤ 4 ∧ i = .int .i64 (k : Int) ∧ v = .slice As 16 cs ∧ RInv w A As S (SN k) wr) (fun _ i _ => 4 - (intOf i).toNat)
              case atStart => exact ⟨0, _, _, by omega, rfl, rfl, HI2.out⟩
              case round =>
                clear HI2
                obtain ⟨k, As, cs, hk, rfl, rfl, hi⟩ := hrel
                by_cases hkt : k < 4
                · obtain ⟨r1, hr1⟩ : ∃ r1, r1 = (k + 1) % 4 := ⟨_, rfl⟩
                  obtain ⟨r2, hr2⟩ : ∃ r2, r2 = (k + 2) % 4 := ⟨_, rfl⟩
                  obtain ⟨r3, hr3⟩ : ∃ r3, r3 = (k + 3) % 4 := ⟨_, rfl⟩
                  have t1 : Int.tmod ((k : Int) + 1) 4 = (r1 : Int) := by rw [Int.tmod_eq_emod_of_nonneg (by omega)]; omega
                  have t2 : Int.tmod ((k : Int) + 2) 4 = (r2 : Int) := by rw [Int.tmod_eq_emod_of_nonneg (by omega)]; omega
                  have t3 : Int.tmod ((k : Int) + 3) 4 = (r3 : Int) := by rw [Int.tmod_eq_emod_of_nonneg (by omega)]; omega
                  have u1 : IntKind.i64.wrap ((k : Int) + 1) = (k : Int) + 1 := IntWalk.i64_in _ (by omega)
                  have u2 : IntKind.i64.wrap ((k : Int) + 2) = (k : Int) + 2 := IntWalk.i64_in _ (by omega)
                  have u3 : IntKind.i64.wrap ((k : Int) + 3) = (k : Int) + 3 := IntWalk.i64_in _ (by omega)
                  have w1' : IntKind.i64.wrap (4 + (r1 : Int)) = 4 + (r1 : Int) := IntWalk.i64_in _ (by omega)
                  have w2' : IntKind.i64.wrap (8 + (r2 : Int)) = 8 + (r2 : Int) := IntWalk.i64_in _ (by omega)
                  have w3' : IntKind.i64.wrap (12 + (r3 : Int)) = 12 + (r3 : Int) := IntWalk.i64_in _ (by omega)
                  have HQ : Hid (Calls Tryd.prog 23 #[.slice As 16 cs, .int .i64 (k : Int), .int .i64 (4 + (r1 : Int)), .int .i64 (8 + (r2 : Int)), .int .i64 (12 + (r3 : Int))] wr fun e w' => ∃ A' c', e = .returned (.slice A' 16 c') ∧ Rds w' A' 16 (cellsW (SN (k + 1))) ∧ Below wr.heap.size wr w') := by
                    rw [HSS.out, ← hr1, ← hr2, ← hr3]
                    exact rquarter_any As cs (SN k) k (4 + r1) (8 + r2) (12 + r3) wr hi.now (HSL2.out k) (HSW2.out k hk) (by omega) (by omega) (by omega) (by omega)
                  have HI := hide hi
                  clear hi hr1 hr2 hr3
                  go_wp2_with fail
                  refine HQ.out.mono ?_
                  rintro e w5 ⟨A5, c5, rfl, rd5, hb5⟩
                  have FIN : Hid (RInv w A A5 S (SN (k + 1)) w5) := ⟨HI.out.first.below hb5, rd5, HI.out.below.trans (hb5.mono HI.out.below.size)⟩
                  clear HI rd5 hb5 HQ t1 t2 t3 u2 u3 w1' w2' w3'
                  go_wp2_with fail
                  go_roundw
                  case rel => first | exact ⟨k + 1, _, _, by omega, by go_num, rfl, FIN.out⟩ | ((repeat apply Exists.intro); exact ⟨⟨k + 1, _, _, by omega, by go_num, rfl, FIN.out⟩, rfl⟩)
                  case measure => simp [intOf]; omega
                · obtain rfl : k = 4 := by omega
                  have FIN : Hid (RInv w A As S (TN (n + 1)) wr) := by rw [HSE.out]; exact hi
                  clear hi
                  go_wp2_with fail
                  go_roundw
                  case rel => first | exact ⟨n + 1, _, _, by omega, by go_num, rfl, FIN.out⟩ | ((repeat apply Exists.intro); exact ⟨⟨n + 1, _, _, by omega, by go_num, rfl, FIN.out⟩, rfl⟩)
                  case measure => simp [intOf]; omega
        · obtain rfl : n = 10 := by omega
          obtain ⟨M, hM⟩ : ∃ M, M = TN 10 := ⟨_, rfl⟩
          have HML : Hid (M.length = 16) := by rw [hM]; exact HTL.out 10
          rw [← hM] at hi
          have HPL : Hid ((plus M S).length = 16) := by show _ = _; rw [plus_length _ _ (by rw [HML.out, HSL.out]), HML.out]
          have HPA : Hid (∀ k, k < 16 → (plus M S).getD k 0 = ad (M.getD k 0) (S.getD k 0)) := fun k hk => by
            rw [List.getD_eq_getElem?_getD, plus_at M S k (by rw [HML.out]; exact hk) (by rw [HSL.out]; exact hk)]; rfl
          obtain ⟨PP, hPP⟩ : ∃ PP, PP = plus M S := ⟨_, rfl⟩
          rw [← hPP] at HPL HPA
          have HPE : Hid ((plus (TN 10) S).flatMap le4 = PP.flatMap le4) := by show _ = _; rw [hPP, hM]
          have HI2 := hide hi
          clear hi hM hPP HTL HTW HTS HT0
          go_wp2_with fail
          go_loopw [14, 15] (fun v i wr => ∃ (k : Nat), k ≤ 16 ∧ i = .int .i64 (k : Int) ∧ v = .string ⟨((PP.take k).flatMap le4).toArray⟩ ∧ RInv w A As S M wr) (fun _ i _ => 16 - (intOf i).toNat)
          case atStart => exact ⟨0, by omega, rfl, rfl, HI2.out⟩
          case round =>
            clear HI2
            obtain ⟨k, hk, rfl, rfl, hi⟩ := hrel
            by_cases hkt : k < 16
            · obtain ⟨pa, rfl, ca⟩ := hi.now.at
              obtain ⟨pb, rfl, cb⟩ := hi.first.at
              have ck : (k : Int) < 16 := by omega
              have HCA := hide (ca k hkt)
              have HCB := hide (cb k hkt)
              have wz : IntKind.u32.wrap ((M.getD k 0 : Int) + (S.getD k 0 : Int)) = (ad (M.getD k 0) (S.getD k 0) : Nat) := by rw [IntKind.wrap_u32']; exact ad_int _ _
              have lz := ad_lt (M.getD k 0) (S.getD k 0)
              have HNX : Hid ((PP.take (k + 1)).flatMap le4 = (PP.take k).flatMap le4 ++ le4 (ad (M.getD k 0) (S.getD k 0))) := by
                show _ = _
                rw [← HPA.out k hkt, List.take_succ_eq_append_getElem (by rw [HPL.out]; exact hkt), List.flatMap_append, List.getD_eq_getElem?_getD, List.getElem?_eq_getElem (by rw [HPL.out]; exact hkt)]
                simp
              generalize ad (M.getD k 0) (S.getD k 0) = z at *
              generalize M.getD k 0 = x at *
              generalize S.getD k 0 = y at *
              have uz : IntKind.u64.wrap (z : Int) = (z : Int) := by rw [IntKind.wrap_u64]; omega
              obtain ⟨sb, hsb⟩ : ∃ sb, sb = (⟨(be 4 z).toArray⟩ : ByteArray) := ⟨_, rfl⟩
              obtain ⟨sl, hsl⟩ : ∃ sl, sl = (⟨(le4 z).toArray⟩ : ByteArray) := ⟨_, rfl⟩
              obtain ⟨so, hso⟩ : ∃ so, so = (⟨((PP.take k).flatMap le4).toArray⟩ : ByteArray) := ⟨_, rfl⟩
              obtain ⟨st, hst⟩ : ∃ st, st = (⟨((PP.take (k + 1)).flatMap le4).toArray⟩ : ByteArray) := ⟨_, rfl⟩
              have HTX : Hid (∀ W, Calls Tryd.prog 21 #[.int .u64 (z : Int), .int .i64 4] W fun e w' => e = .returned (.string sb) ∧ Below W.heap.size W w') := by rw [hsb]; exact fun W => text_any z 4 W (by omega) (by omega)
              have HTU : Hid (∀ W, Calls Tryd.prog 20 #[.string sb] W fun e w' => e = .returned (.string sl) ∧ W = w') := by rw [hsb, hsl]; exact fun W => rturned_any (be 4 z) W (by rw [be_length]; omega)
              have hadd : so ++ sl = st := by rw [hso, hsl, hst, HNX.out]; exact txt_append _ _
              have zl : sl.size = 4 := by rw [hsl, txt_size, le4_length]
              have zo : so.size ≤ 1000 := by rw [hso, txt_size, flatle_length, List.length_take]; omega
              have HST2 := hide hst
              rw [← hso]
              have FD : Frm (fun _ => False) wr wr.drew := (Frm.refl _ _).drew
              have H0 : RInv w (some pb) (some pa) S M wr.drew := ⟨hi.first, hi.now, ⟨hi.below.os, hi.below.tape, hi.below.output, hi.below.size, hi.below.block⟩⟩
              have cA : wr.drew.cell? (pa.add k) = some (.int .u32 (x : Int)) := HCA.out
              have cB : wr.drew.cell? (pb.add k) = some (.int .u32 (y : Int)) := HCB.out
              clear hi ca cb hsb hsl hso hst HCA HCB FD lz HNX
              go_wp2_with fail
              refine wp_region_held_drew (S := fun W => W.cell? (pa.add k) = some (.int .u32 (x : Int)) ∧ W.cell? (pb.add k) = some (.int .u32 (y : Int))) (by kernel_rfl) (⟨cA, cB⟩) ?_
              intro hHeld
              obtain ⟨W0, hW0⟩ : ∃ W', W' = wr.drew := ⟨_, rfl⟩
              rw [← hW0] at H0 cA cB hHeld ⊢
              clear hW0
              refine wpAnyH_take (i := 0) (v := ?v1) rfl (by kernel_rfl) (by kernel_rfl) (by kernel_rfl) (fun _ _ _ h => h) (Or.inl ⟨by rfl, ?hy1⟩) (by assumption) ?rest1
              case hy1 => (intro w hSw; (try dsimp only at hSw); go_simp; try with_reducible rfl)
              try simp only [Act.put, List.getElem_toArray, List.getElem_cons_zero, List.setIfInBounds_toArray, List.set_cons_zero, List.set_cons_succ]
              refine wpAnyH_take (i := 1) (v := ?v2) rfl (by kernel_rfl) (by kernel_rfl) (by kernel_rfl) (fun _ _ _ h => h) (Or.inl ⟨by rfl, ?hy2⟩) (by assumption) ?rest2
              case hy2 => (intro w hSw; (try dsimp only at hSw); go_simp; try with_reducible rfl)
              try simp only [Act.put, List.getElem_toArray, List.getElem_cons_zero, List.getElem_cons_succ, List.setIfInBounds_toArray, List.set_cons_zero, List.set_cons_succ]
              refine wpAnyH_take (i := 2) (v := ?v3) rfl (by kernel_rfl) (by kernel_rfl) (by kernel_rfl) (fun _ _ _ h => h) (Or.inl ⟨by rfl, ?hy3⟩) (by assumption) ?rest3
              case hy3 => (intro w hSw; (try dsimp only at hSw); go_simp; try with_reducible rfl)
              try simp only [Act.put, List.getElem_toArray, List.getElem_cons_zero, List.getElem_cons_succ, List.setIfInBounds_toArray, List.set_cons_zero, List.set_cons_succ]
              refine wpAnyH_take (i := 3) (v := ?v4) rfl (by kernel_rfl) (by kernel_rfl) (by kernel_rfl) (fun _ _ _ h => h) (Or.inl ⟨by rfl, ?hy4⟩) (by assumption) ?rest4
              case hy4 => (intro w hSw; (try dsimp only at hSw); go_simp; try with_reducible rfl)
              try simp only [Act.put, List.getElem_toArray, List.getElem_cons_zero, List.getElem_cons_succ, List.setIfInBounds_toArray, List.set_cons_zero, List.set_cons_succ]
              refine wpAnyH_take (i := 4) (v := ?v5) rfl (by kernel_rfl) (by kernel_rfl) (by kernel_rfl) (fun _ _ _ h => h) (Or.inl ⟨by rfl, ?hy5⟩) (by assumption) ?rest5
              case hy5 => (intro w hSw; obtain ⟨h1, h2⟩ := hSw; go_simp; try with_reducible rfl)
              try simp only [Act.put, List.getElem_toArray, List.getElem_cons_zero, List.getElem_cons_succ, List.setIfInBounds_toArray, List.set_cons_zero, List.set_cons_succ]
              refine wpAnyH_take (i := 5) (v := ?v6) rfl (by kernel_rfl) (by kernel_rfl) (by kernel_rfl) (fun _ _ _ h => h) (Or.inl ⟨by rfl, ?hy6⟩) (by assumption) ?rest6
              case hy6 => (intro w hSw; (try dsimp only at hSw); go_simp; try with_reducible rfl)
              try simp only [Act.put, List.getElem_toArray, List.getElem_cons_zero, List.getElem_cons_succ, List.setIfInBounds_toArray, List.set_cons_zero, List.set_cons_succ]
              refine wpAnyH_take (i := 6) (v := ?v7) rfl (by kernel_rfl) (by kernel_rfl) (by kernel_rfl) (fun _ _ _ h => h) (Or.inl ⟨by rfl, ?hy7⟩) (by assumption) ?rest7
              case hy7 => (intro w hSw; (try dsimp only at hSw); go_simp; try with_reducible rfl)
              try simp only [Act.put, List.getElem_toArray, List.getElem_cons_zero, List.getElem_cons_succ, List.setIfInBounds_toArray, List.set_cons_zero, List.set_cons_succ]
              refine wpAnyH_take (i := 7) (v := ?v8) rfl (by kernel_rfl) (by kernel_rfl) (by kernel_rfl) (fun _ _ _ h => h) (Or.inl ⟨by rfl, ?hy8⟩) (by assumption) ?rest8
              case hy8 => (intro w hSw; (try dsimp only at hSw); go_simp; try with_reducible rfl)
              try simp only [Act.put, List.getElem_toArray, List.getElem_cons_zero, List.getElem_cons_succ, List.setIfInBounds_toArray, List.set_cons_zero, List.set_cons_succ]
              refine wpAnyH_take (i := 8) (v := ?v9) rfl (by kernel_rfl) (by kernel_rfl) (by kernel_rfl) (fun _ _ _ h => h) (Or.inl ⟨by rfl, ?hy9⟩) (by assumption) ?rest9
              case hy9 => (intro w hSw; obtain ⟨h1, h2⟩ := hSw; go_simp; try with_reducible rfl)
              try simp only [Act.put, List.getElem_toArray, List.getElem_cons_zero, List.getElem_cons_succ, List.setIfInBounds_toArray, List.set_cons_zero, List.set_cons_succ]
              refine wpAnyH_take (i := 9) (v := ?v10) rfl (by kernel_rfl) (by kernel_rfl) (by kernel_rfl) (fun _ _ _ h => h) (Or.inl ⟨by rfl, ?hy10⟩) (by assumption) ?rest10
              case hy10 => (intro w hSw; (try dsimp only at hSw); go_simp; try with_reducible rfl)
              try simp only [Act.put, List.getElem_toArray, List.getElem_cons_zero, List.getElem_cons_succ, List.setIfInBounds_toArray, List.set_cons_zero, List.set_cons_succ]
              refine wpAnyH_take (i := 10) (v := ?v11) rfl (by kernel_rfl) (by kernel_rfl) (by kernel_rfl) (fun _ _ _ h => h) (Or.inl ⟨by rfl, ?hy11⟩) (by assumption) ?rest11
              case hy11 => (intro w hSw; (try dsimp only at hSw); go_simp; try with_reducible rfl)
              try simp only [Act.put, List.getElem_toArray, List.getElem_cons_zero, List.getElem_cons_succ, List.setIfInBounds_toArray, List.set_cons_zero, List.set_cons_succ]
              refine wpAnyH_ready (rs := [11]) (by kernel_rfl) (by simp) ?_
              refine AllReadyH.cons rfl (fun K hK => ?_) AllReadyH.nil
              go_simp
              refine (HTX.out W0).mono ?_
              rintro e W1 ⟨rfl, hb1⟩
              have H1 := H0.of_below hb1
              have cA1 : W1.cell? (pa.add k) = some (.int .u32 (x : Int)) := by rw [hb1.cell (World.block_lt_of_cell? W0 _ cA)]; exact cA
              have cB1 : W1.cell? (pb.add k) = some (.int .u32 (y : Int)) := by rw [hb1.cell (World.block_lt_of_cell? W0 _ cB)]; exact cB
              refine hK.out _ _ (⟨cA1, cB1⟩) (fun hHeld => ?_)
              clear hK K
              try simp only [Act.put, List.getElem_toArray, List.getElem_cons_zero, List.getElem_cons_succ, List.setIfInBounds_toArray, List.set_cons_zero, List.set_cons_succ]
              refine wpAnyH_ready (rs := [12]) (by kernel_rfl) (by simp) ?_
              refine AllReadyH.cons rfl (fun K hK => ?_) AllReadyH.nil
              go_simp
              refine (HTU.out W1).mono ?_
              rintro e W2 ⟨rfl, rfl⟩
              refine hK.out _ _ (⟨cA1, cB1⟩) (fun hHeld => ?_)
              clear hK K
              try simp only [Act.put, List.getElem_toArray, List.getElem_cons_zero, List.getElem_cons_succ, List.setIfInBounds_toArray, List.set_cons_zero, List.set_cons_succ]
              refine wpAnyH_take (i := 13) (v := ?v12) rfl (by kernel_rfl) (by kernel_rfl) (by kernel_rfl) (fun _ _ _ h => h) (Or.inl ⟨by rfl, ?hy12⟩) (by assumption) ?rest12
              case hy12 => (intro w hSw; go_simp; rw [if_neg (by omega)])
              try simp only [Act.put, List.getElem_toArray, List.getElem_cons_zero, List.getElem_cons_succ, List.setIfInBounds_toArray, List.set_cons_zero, List.set_cons_succ]
              refine wpAnyH_take (i := 14) (v := ?v13) rfl (by kernel_rfl) (by kernel_rfl) (by kernel_rfl) (fun _ _ _ h => h) (Or.inl ⟨by rfl, ?hy13⟩) (by assumption) ?rest13
              case hy13 => (intro w hSw; (try dsimp only at hSw); go_simp; try with_reducible rfl)
              try simp only [Act.put, List.getElem_toArray, List.getElem_cons_zero, List.getElem_cons_succ, List.setIfInBounds_toArray, List.set_cons_zero, List.set_cons_succ]
              refine wpAnyH_done (by kernel_rfl) ?_ _
              have FIN := hide H1
              clear cA cB cA1 cB1 H0 H1 hHeld HTX HTU
              go_wp2_with fail
              go_roundw
              case rel => first | exact ⟨k + 1, by omega, by go_num, by rw [HST2.out], FIN.out⟩ | ((repeat apply Exists.intro); exact ⟨⟨k + 1, by omega, by go_num, by rw [HST2.out], FIN.out⟩, rfl⟩)
              case measure => simp [intOf]; omega
            · obtain rfl : k = 16 := by omega
              rw [List.take_of_length_le (by rw [HPL.out]; exact Nat.le_refl _)]
              have HB := hide hi.below
              clear hi
              go_wp2_with fail
              go_ret
              exact ⟨congrArg (fun l : List UInt8 => Ending.returned (.string ⟨l.toArray⟩)) HPE.out.symm, HB.out⟩
end Go.Proofs.YtjdffceeinflcaaDoor
