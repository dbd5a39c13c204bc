/-
  HMAC over lists; pads xored, keys padded, rows compared.
-/
import Derived.Test.YtbicjcpdcopbhaaDoorSha11
namespace Go.Proofs.YtbicjcpdcopbhaaDoor
set_option linter.unusedVariables false
open Go.RowKit

def xorL (c : UInt8) (l : List UInt8) : List UInt8 := l.map (· ^^^ c)
theorem xorL_length (c : UInt8) (l : List UInt8) : (xorL c l).length = l.length := by simp [xorL]
def keyL (k : List UInt8) : List UInt8 := if 64 < k.length then shaL k else k
theorem keyL_le (k : List UInt8) : (keyL k).length ≤ 64 := by
  unfold keyL
  split
  · rw [shaL_length]; omega
  · omega
def padK (k : List UInt8) : List UInt8 := keyL k ++ List.replicate (64 - (keyL k).length) 0
theorem padK_length (k : List UInt8) : (padK k).length = 64 := by have := keyL_le k; simp [padK]; omega
def macL (k m : List UInt8) : List UInt8 := shaL (xorL 92 (padK k) ++ shaL (xorL 54 (padK k) ++ m))
theorem macL_length (k m : List UInt8) : (macL k m).length = 32 := shaL_length _

theorem agg64b : Agg Tryd.prog 31 64 := Agg.of (by kernel_rfl) (by kernel_rfl)
theorem zero64b : (Tryd.prog.info? 31).map (fun i => i.zero) = some (some (.agg (cellsB (List.replicate 64 0)).toArray)) := by kernel_rfl
theorem under64b : Tryd.prog.underlying 31 = some (.array 64 5) := by kernel_rfl

theorem byte_xor (a b : UInt8) : bits .xor .u8 (a.toNat : Int) (b.toNat : Int) = ((a ^^^ b).toNat : Int) := by
  have ha := a.toNat_lt
  have hb := b.toNat_lt
  have h1 : (BitVec.ofInt 8 (a.toNat : Int)).toNat = a.toNat := by rw [BitVec.toNat_ofInt]; omega
  have h2 : (BitVec.ofInt 8 (b.toNat : Int)).toNat = b.toNat := by rw [BitVec.toNat_ofInt]; omega
  have h3 : a.toNat ^^^ b.toNat < 256 := Nat.xor_lt_two_pow (n := 8) ha hb
  show IntKind.u8.wrap ((BitVec.ofInt 8 (a.toNat : Int) ^^^ BitVec.ofInt 8 (b.toNat : Int)).toNat : Nat) = _
  rw [BitVec.toNat_xor, h1, h2, UInt8.toNat_xor, IntKind.wrap_u8]
  omega
theorem byte_or (a b : UInt8) : bits .or .u8 (a.toNat : Int) (b.toNat : Int) = ((a ||| b).toNat : Int) := by
  have ha := a.toNat_lt
  have hb := b.toNat_lt
  have h1 : (BitVec.ofInt 8 (a.toNat : Int)).toNat = a.toNat := by rw [BitVec.toNat_ofInt]; omega
  have h2 : (BitVec.ofInt 8 (b.toNat : Int)).toNat = b.toNat := by rw [BitVec.toNat_ofInt]; omega
  have h3 : a.toNat ||| b.toNat < 256 := Nat.or_lt_two_pow (n := 8) ha hb
  show IntKind.u8.wrap ((BitVec.ofInt 8 (a.toNat : Int) ||| BitVec.ofInt 8 (b.toNat : Int)).toNat : Nat) = _
  rw [BitVec.toNat_or, h1, h2, UInt8.toNat_or, IntKind.wrap_u8]
  omega
theorem getD_byte (l : List UInt8) (k : Nat) (h : k < l.length) : (cellsB l)[k]? = some (.int .u8 ((l.getD k 0).toNat : Int)) := by
  rw [cellsB_get, List.getD_eq_getElem?_getD, List.getElem?_eq_getElem h]; rfl

set_option maxHeartbeats 2000000 in
theorem xorEach_any (g : Nat) (c : UInt8) (l : List UInt8) (w : World) (hb : Blk w g 31 (cellsB l).toArray) (hl : l.length = 64) :
    Calls Tryd.prog 48 #[.pointer (some ⟨g, 0, none⟩), .int .u8 (c.toNat : Int)] w fun e w' => e = .returned (.tuple #[]) ∧ Blk w' g 31 (cellsB (xorL c l)).toArray ∧ Frm (fun k => k = g) w w' := by
  have HB := hide hb
  clear hb
  have hp : (xorL c l).length = l.length := xorL_length c l
  go_enter Tryd.func48, Tryd.ntmps48
  go_wp2_with fail
  go_loopw [5] (fun i wr => ∃ k : Nat, k ≤ 64 ∧ i = .int .i64 k ∧ Blk wr g 31 (cellsB (mix (xorL c l) l k)).toArray ∧ Frm (fun k => k = g) w wr) (fun i _ => 64 - (intOf i).toNat)
  case atStart => exact ⟨0, by omega, rfl, by rw [mix_zero]; exact HB.out, Frm.refl _ _⟩
  case round =>
    clear HB
    obtain ⟨k, hk, rfl, hi, hf⟩ := hrel
    by_cases hlt : k < 64
    · have hc1 : wr.cell? ⟨g, k, none⟩ = some (.int .u8 ((l.getD k 0).toNat : Int)) := by
        rw [hi.cell, List.getElem?_toArray, cellsB_get, mix_at _ _ _ hp (by omega), ← cellsB_get, getD_byte _ _ (by omega)]
      have hf1 := hi.frozen k
      have hx := byte_xor (l.getD k 0) c
      have hset := mix_set (xorL c l) l k (l.getD k 0 ^^^ c) hp (by omega) (by
        rw [xorL, List.getElem?_map, List.getD_eq_getElem?_getD, List.getElem?_eq_getElem (by omega)]; rfl)
      have fin : Blk (wr.drew.setCell ⟨g, k, none⟩ (.int .u8 ((l.getD k 0 ^^^ c).toNat : Int))) g 31 (cellsB (mix (xorL c l) l (k + 1))).toArray ∧ Frm (fun k => k = g) w (wr.drew.setCell ⟨g, k, none⟩ (.int .u8 ((l.getD k 0 ^^^ c).toNat : Int))) := by
        have hb := hi.set k (.int .u8 ((l.getD k 0 ^^^ c).toNat : Int))
        rw [List.setIfInBounds_toArray, cellsB_set, hset] at hb
        exact ⟨hb, (hf.drew).trans (Frm.setCell _ _ _ (fun i => i = g) rfl) (fun _ _ h => h)⟩
      have FIN := hide fin
      have HS := hide hi
      clear fin hset hi hf
      generalize (l.getD k 0 ^^^ c).toNat = z at *
      generalize (l.getD k 0).toNat = x at *
      generalize c.toNat = y at *
      go_wp2_with fail
      go_still_tail 9, (by kernel_rfl)
      have hc1' : wr.drew.cell? ⟨g, k, none⟩ = some (.int .u8 (x : Nat)) := hc1
      have hf1' : wr.drew.frozen? ⟨g, k, none⟩ = false := hf1
      change wpList _ _ _ _ _ wr.drew
      go_wp2
      go_roundw
      case rel => exact ⟨k + 1, by omega, by go_num, FIN.out⟩
      case measure => simp [intOf]; omega
    · obtain rfl : k = 64 := by omega
      rw [mix_all _ _ _ hp (by omega)] at hi
      go_wp2_with fail
      exact end0 rfl rfl ⟨rfl, hi, hf⟩
end Go.Proofs.YtbicjcpdcopbhaaDoor
