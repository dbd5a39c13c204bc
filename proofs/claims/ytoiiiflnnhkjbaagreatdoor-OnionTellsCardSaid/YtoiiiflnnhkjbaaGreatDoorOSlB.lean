/-
  Slots and packets over lists; seals.
-/
import Derived.Test.YtoiiiflnnhkjbaaGreatDoorHp
import Derived.Test.YtoiiiflnnhkjbaaGreatDoorOSlA
import Derived.Stop.BytesEq
import Derived.Deep.MidRow
import Derived.WalkKit
import Derived.Deep.QuietTactic
import Derived.Deep.RegionHeld3
namespace Go.Proofs.YtoiiiflnnhkjbaaGreatDoor
set_option linter.unusedVariables false
set_option linter.unusedSimpArgs false
open Go.RowKit

structure Slot where
  last : Bool
  next : Nat
  box : Nat
  who : Nat
  epoch : Nat
  nonce : List UInt8
  mac : List UInt8
  lo : Nat
  hi : Nat
  delay : Nat
def Z16 : List UInt8 := List.replicate 16 0
theorem Z16_length : Z16.length = 16 := rfl
theorem Slot.ext' {s t : Slot} (h0 : s.last = t.last) (h1 : s.next = t.next) (h2 : s.box = t.box) (h3 : s.who = t.who) (h4 : s.epoch = t.epoch) (h5 : s.nonce = t.nonce) (h6 : s.mac = t.mac) (h7 : s.lo = t.lo) (h8 : s.hi = t.hi) (h9 : s.delay = t.delay) : s = t := by
  cases s; cases t; simp_all
/-- The numbers fit their types. -/
structure Slot.ok (s : Slot) : Prop where
  next : s.next < 65536
  box : s.box < 65536
  who : s.who < 65536
  epoch : s.epoch < 4294967296
  lo : s.lo < 18446744073709551616
  hi : s.hi < 18446744073709551616
  delay : s.delay < 4294967296
  nonce : s.nonce.length = 16
  mac : s.mac.length = 16
/-- The slot of noughts. -/
def slot0 : Slot := ⟨false, 0, 0, 0, 0, Z16, Z16, 0, 0, 0⟩
theorem slot0_ok : slot0.ok := ⟨by decide, by decide, by decide, by decide, by decide, by decide, by decide, rfl, rfl⟩
/-- Its cells. -/
def slotC (s : Slot) : List Value :=
  .bool s.last :: .int .u16 (s.next : Int) :: .int .u16 (s.box : Int) :: .int .u16 (s.who : Int) :: .int .u32 (s.epoch : Int) :: (cellsB s.nonce ++ (cellsB s.mac ++ [.int .u64 (s.lo : Int), .int .u64 (s.hi : Int), .int .u32 (s.delay : Int)]))
theorem slotC_length (s : Slot) (h1 : s.nonce.length = 16) (h2 : s.mac.length = 16) : (slotC s).length = 40 := by
  simp [slotC, cellsB_length, h1, h2]
theorem slotC_one (s : Slot) : ∀ v ∈ slotC s, v.oneCell' = true := by
  intro v hv
  simp only [slotC, List.mem_cons, List.mem_append, List.not_mem_nil, or_false] at hv
  rcases hv with rfl | rfl | rfl | rfl | rfl | hv | hv | rfl | rfl | rfl
  all_goals first | rfl | exact cellsB_one _ v hv
section
variable {s : Slot} (h1 : s.nonce.length = 16) (h2 : s.mac.length = 16)
include h1
theorem slotC_nonce : ((slotC s).drop 5).take 16 = cellsB s.nonce := by
  show (cellsB s.nonce ++ _).take 16 = _
  rw [← h1, ← cellsB_length, List.take_left]
include h2
theorem slotC_mac : ((slotC s).drop 21).take 16 = cellsB s.mac := by
  show ((cellsB s.nonce ++ (cellsB s.mac ++ _)).drop 16).take 16 = _
  rw [List.drop_append_of_le_length (by rw [cellsB_length, h1]; omega), List.drop_eq_nil_of_le (by rw [cellsB_length, h1]; omega), List.nil_append]
  rw [← h2, ← cellsB_length, List.take_left]
theorem slotC_tail : (slotC s).drop 37 = [.int .u64 (s.lo : Int), .int .u64 (s.hi : Int), .int .u32 (s.delay : Int)] := by
  show (cellsB s.nonce ++ (cellsB s.mac ++ _)).drop 32 = _
  rw [← List.append_assoc, List.drop_append_of_le_length (by simp [cellsB_length, h1, h2]), List.drop_eq_nil_of_le (by simp [cellsB_length, h1, h2]), List.nil_append]
theorem slotC_lo : (slotC s)[37]? = some (.int .u64 (s.lo : Int)) := by
  have := slotC_tail h1 h2
  have h := congrArg (fun l => l[0]?) this
  simpa using h
theorem slotC_hi : (slotC s)[38]? = some (.int .u64 (s.hi : Int)) := by
  have := slotC_tail h1 h2
  have h := congrArg (fun l => l[1]?) this
  simpa using h
theorem slotC_delay : (slotC s)[39]? = some (.int .u32 (s.delay : Int)) := by
  have := slotC_tail h1 h2
  have h := congrArg (fun l => l[2]?) this
  simpa using h
end
/-- What is left of it when all is left out that its kind may not say. -/
def kindM (s : Slot) : Slot := if s.last = true then ⟨true, 0, s.box, 0, 0, Z16, Z16, s.lo, s.hi, s.delay⟩ else ⟨s.last, s.next, 0, s.who, s.epoch, s.nonce, s.mac, s.lo, s.hi, s.delay⟩
theorem kindM_ok {s : Slot} (h : s.ok) : (kindM s).ok := by
  unfold kindM
  split
  · exact ⟨by simp, h.box, by simp, by simp, h.lo, h.hi, h.delay, rfl, rfl⟩
  · exact ⟨h.next, by simp, h.who, h.epoch, h.lo, h.hi, h.delay, h.nonce, h.mac⟩
/-- It is right. -/
def rightM (s : Slot) : Prop := s.lo ≤ s.hi ∧ s = kindM s
/-- Its bytes. -/
def encM (s : Slot) : List UInt8 :=
  be 1 (if s.last = true then 1 else 0) ++ be 2 (if s.last = true then s.box else s.next) ++ be 8 s.lo ++ be 8 s.hi ++ be 4 s.delay ++ be 2 s.who ++ be 4 s.epoch ++ s.nonce ++ s.mac ++ List.replicate 3 0
theorem encM_length {s : Slot} (h : s.ok) : (encM s).length = 64 := by
  simp [encM, be_length, h.nonce, h.mac]
/-- What stands in bytes. -/
def decM (b : List UInt8) : Slot where
  last := decide (num (b.take 1) = 1)
  next := if num (b.take 1) = 1 then 0 else num ((b.drop 1).take 2)
  box := if num (b.take 1) = 1 then num ((b.drop 1).take 2) else 0
  lo := num ((b.drop 3).take 8)
  hi := num ((b.drop 11).take 8)
  delay := num ((b.drop 19).take 4)
  who := num ((b.drop 23).take 2)
  epoch := num ((b.drop 25).take 4)
  nonce := (b.drop 29).take 16
  mac := (b.drop 45).take 16
theorem num_cut (b : List UInt8) (i n : Nat) : num ((b.drop i).take n) < 256 ^ n := num_take_lt _ _ _ (Nat.le_refl _)
theorem decM_ok (b : List UInt8) (h : b.length = 64) : (decM b).ok := by
  have h1 := num_cut b 1 2
  refine ⟨?_, ?_, num_cut b 23 2, num_cut b 25 4, num_cut b 3 8, num_cut b 11 8, num_cut b 19 4, ?_, ?_⟩
  · simp only [decM]; split <;> omega
  · simp only [decM]; split <;> omega
  · simp only [decM]; rw [List.length_take, List.length_drop]; omega
  · simp only [decM]; rw [List.length_take, List.length_drop]; omega
/-- A cut of bytes that are one behind the other. -/
theorem cut_app (a b c : List UInt8) (i n : Nat) (h1 : a.length = i) (h2 : b.length = n) : ((a ++ b ++ c).drop i).take n = b := by
  subst h1 h2
  rw [List.append_assoc, List.drop_left, List.take_left]
theorem be_small (w n : Nat) (h : n < 256 ^ w) : num (be w n) = n := num_be w n h
/-- Of a slot that has no field of the other kind: what stands in its bytes is it. -/
theorem dec_enc {s : Slot} (h : s.ok) (hk : s = kindM s) : decM (encM s) = s := by
  obtain ⟨last, next, box, who, epoch, nonce, mac, lo, hi, delay⟩ := s
  obtain ⟨b1, b2, b3, b4, b5, b6, b7, b8, b9⟩ := h
  simp only at b1 b2 b3 b4 b5 b6 b7 b8 b9
  obtain ⟨k, hkk⟩ : ∃ k : Nat, k = (if last = true then 1 else 0) := ⟨_, rfl⟩
  obtain ⟨t, htt⟩ : ∃ t : Nat, t = (if last = true then box else next) := ⟨_, rfl⟩
  have hk1 : k < 256 := by rw [hkk]; split <;> omega
  have ht1 : t < 65536 := by rw [htt]; split <;> omega
  have e0 : (encM ⟨last, next, box, who, epoch, nonce, mac, lo, hi, delay⟩) = be 1 k ++ be 2 t ++ be 8 lo ++ be 8 hi ++ be 4 delay ++ be 2 who ++ be 4 epoch ++ nonce ++ mac ++ List.replicate 3 0 := by
    simp only [encM, ← hkk, ← htt]
  have c0 : num ((encM ⟨last, next, box, who, epoch, nonce, mac, lo, hi, delay⟩).take 1) = k := by
    rw [e0]
    have := cut_app [] (be 1 k) (be 2 t ++ be 8 lo ++ be 8 hi ++ be 4 delay ++ be 2 who ++ be 4 epoch ++ nonce ++ mac ++ List.replicate 3 0) 0 1 rfl (be_length _ _)
    simp only [List.nil_append, List.drop_zero, List.append_assoc] at this ⊢
    rw [this]
    exact be_small _ _ hk1
  have c1 : num (((encM ⟨last, next, box, who, epoch, nonce, mac, lo, hi, delay⟩).drop 1).take 2) = t := by
    rw [e0]
    have := cut_app (be 1 k) (be 2 t) (be 8 lo ++ be 8 hi ++ be 4 delay ++ be 2 who ++ be 4 epoch ++ nonce ++ mac ++ List.replicate 3 0) 1 2 (be_length _ _) (be_length _ _)
    simp only [List.append_assoc] at this ⊢
    rw [this]
    exact be_small _ _ ht1
  have c2 : num (((encM ⟨last, next, box, who, epoch, nonce, mac, lo, hi, delay⟩).drop 3).take 8) = lo := by
    rw [e0]
    have := cut_app (be 1 k ++ be 2 t) (be 8 lo) (be 8 hi ++ be 4 delay ++ be 2 who ++ be 4 epoch ++ nonce ++ mac ++ List.replicate 3 0) 3 8 (by simp [be_length]) (be_length _ _)
    simp only [List.append_assoc] at this ⊢
    rw [this]
    exact be_small _ _ b5
  have c3 : num (((encM ⟨last, next, box, who, epoch, nonce, mac, lo, hi, delay⟩).drop 11).take 8) = hi := by
    rw [e0]
    have := cut_app (be 1 k ++ be 2 t ++ be 8 lo) (be 8 hi) (be 4 delay ++ be 2 who ++ be 4 epoch ++ nonce ++ mac ++ List.replicate 3 0) 11 8 (by simp [be_length]) (be_length _ _)
    simp only [List.append_assoc] at this ⊢
    rw [this]
    exact be_small _ _ b6
  have c4 : num (((encM ⟨last, next, box, who, epoch, nonce, mac, lo, hi, delay⟩).drop 19).take 4) = delay := by
    rw [e0]
    have := cut_app (be 1 k ++ be 2 t ++ be 8 lo ++ be 8 hi) (be 4 delay) (be 2 who ++ be 4 epoch ++ nonce ++ mac ++ List.replicate 3 0) 19 4 (by simp [be_length]) (be_length _ _)
    simp only [List.append_assoc] at this ⊢
    rw [this]
    exact be_small _ _ b7
  have c5 : num (((encM ⟨last, next, box, who, epoch, nonce, mac, lo, hi, delay⟩).drop 23).take 2) = who := by
    rw [e0]
    have := cut_app (be 1 k ++ be 2 t ++ be 8 lo ++ be 8 hi ++ be 4 delay) (be 2 who) (be 4 epoch ++ nonce ++ mac ++ List.replicate 3 0) 23 2 (by simp [be_length]) (be_length _ _)
    simp only [List.append_assoc] at this ⊢
    rw [this]
    exact be_small _ _ b3
  have c6 : num (((encM ⟨last, next, box, who, epoch, nonce, mac, lo, hi, delay⟩).drop 25).take 4) = epoch := by
    rw [e0]
    have := cut_app (be 1 k ++ be 2 t ++ be 8 lo ++ be 8 hi ++ be 4 delay ++ be 2 who) (be 4 epoch) (nonce ++ mac ++ List.replicate 3 0) 25 4 (by simp [be_length]) (be_length _ _)
    simp only [List.append_assoc] at this ⊢
    rw [this]
    exact be_small _ _ b4
  have c7 : ((encM ⟨last, next, box, who, epoch, nonce, mac, lo, hi, delay⟩).drop 29).take 16 = nonce := by
    rw [e0]
    have := cut_app (be 1 k ++ be 2 t ++ be 8 lo ++ be 8 hi ++ be 4 delay ++ be 2 who ++ be 4 epoch) nonce (mac ++ List.replicate 3 0) 29 16 (by simp [be_length]) b8
    simp only [List.append_assoc] at this ⊢
    exact this
  have c8 : ((encM ⟨last, next, box, who, epoch, nonce, mac, lo, hi, delay⟩).drop 45).take 16 = mac := by
    rw [e0]
    have := cut_app (be 1 k ++ be 2 t ++ be 8 lo ++ be 8 hi ++ be 4 delay ++ be 2 who ++ be 4 epoch ++ nonce) mac (List.replicate 3 0) 45 16 (by simp [be_length, b8]) b9
    simp only [List.append_assoc] at this ⊢
    exact this
  simp only [decM, c0, c1, c2, c3, c4, c5, c6, c7, c8, hkk, htt]
  cases last
  · simp [kindM] at hk
    simp [hk]
  · simp [kindM] at hk
    simp [hk]
theorem take_split (b : List UInt8) (i j k : Nat) (h : k = i + j) : b.take k = b.take i ++ (b.drop i).take j := by
  subst h
  exact List.take_add
/-- Bytes of which the first says the kind and the last three are noughts are those of what stands in them. -/
theorem enc_dec {b : List UInt8} (hb : b.length = 64) (h0 : num (b.take 1) ≤ 1) (h3 : b.drop 61 = List.replicate 3 0) : encM (decM b) = b := by
  have n0 : be 1 (num (b.take 1)) = b.take 1 := be_numN _ 1 (by rw [List.length_take]; omega)
  have cut : ∀ i n, i + n ≤ 64 → be n (num ((b.drop i).take n)) = (b.drop i).take n := fun i n h => be_numN _ n (by rw [List.length_take, List.length_drop]; omega)
  have e1 : (if (decM b).last = true then 1 else 0) = num (b.take 1) := by
    simp only [decM, decide_eq_true_eq]
    split <;> omega
  have e2 : (if (decM b).last = true then (decM b).box else (decM b).next) = num ((b.drop 1).take 2) := by
    simp only [decM, decide_eq_true_eq]
    split <;> rfl
  unfold encM
  rw [e1, e2, n0, cut 1 2 (by omega)]
  have f3 : be 8 (decM b).lo = (b.drop 3).take 8 := cut 3 8 (by omega)
  have f4 : be 8 (decM b).hi = (b.drop 11).take 8 := cut 11 8 (by omega)
  have f5 : be 4 (decM b).delay = (b.drop 19).take 4 := cut 19 4 (by omega)
  have f6 : be 2 (decM b).who = (b.drop 23).take 2 := cut 23 2 (by omega)
  have f7 : be 4 (decM b).epoch = (b.drop 25).take 4 := cut 25 4 (by omega)
  rw [f3, f4, f5, f6, f7]
  show b.take 1 ++ (b.drop 1).take 2 ++ (b.drop 3).take 8 ++ (b.drop 11).take 8 ++ (b.drop 19).take 4 ++ (b.drop 23).take 2 ++ (b.drop 25).take 4 ++ (b.drop 29).take 16 ++ (b.drop 45).take 16 ++ List.replicate 3 0 = b
  rw [← take_split b 1 2 3 rfl, ← take_split b 3 8 11 rfl, ← take_split b 11 8 19 rfl, ← take_split b 19 4 23 rfl, ← take_split b 23 2 25 rfl, ← take_split b 25 4 29 rfl, ← take_split b 29 16 45 rfl, ← take_split b 45 16 61 rfl, ← h3]
  exact List.take_append_drop _ _
/-- .. and no others are a slot's. -/
theorem enc_kind {s : Slot} (h : s.ok) : num ((encM s).take 1) = (if s.last = true then 1 else 0) ∧ (encM s).drop 61 = List.replicate 3 0 := by
  constructor
  · have e : (encM s).take 1 = be 1 (if s.last = true then 1 else 0) := by
      unfold encM
      simp only [List.append_assoc]
      exact List.take_left' (be_length _ _)
    rw [e, be_small]
    split <;> decide
  · unfold encM
    exact List.drop_left' (by simp [be_length, h.nonce, h.mac])
structure Pkt where
  who : Nat
  epoch : Nat
  nonce : List UInt8
  mac : List UInt8
  head : List UInt8
  body : List UInt8
theorem Pkt.ext' {s t : Pkt} (h3 : s.who = t.who) (h4 : s.epoch = t.epoch) (h5 : s.nonce = t.nonce) (h6 : s.mac = t.mac) (h7 : s.head = t.head) (h8 : s.body = t.body) : s = t := by
  cases s; cases t; simp_all
structure Pkt.ok (p : Pkt) : Prop where
  who : p.who < 65536
  epoch : p.epoch < 4294967296
  nonce : p.nonce.length = 16
  mac : p.mac.length = 16
  head : p.head.length = 320
  body : p.body.length = 256
def zeros (n : Nat) : List UInt8 := List.replicate n 0
theorem zeros_length (n : Nat) : (zeros n).length = n := List.length_replicate
def pkt0 : Pkt := ⟨0, 0, Z16, Z16, zeros 320, zeros 256⟩
theorem pkt0_ok : pkt0.ok := ⟨by decide, by decide, rfl, rfl, zeros_length _, zeros_length _⟩
def pktC (p : Pkt) : List Value := .int .u16 (p.who : Int) :: .int .u32 (p.epoch : Int) :: (cellsB p.nonce ++ (cellsB p.mac ++ (cellsB p.head ++ cellsB p.body)))
theorem pktC_length {p : Pkt} (h : p.ok) : (pktC p).length = 610 := by
  simp [pktC, cellsB_length, h.nonce, h.mac, h.head, h.body]
theorem pktC_one (p : Pkt) : ∀ v ∈ pktC p, v.oneCell' = true := by
  intro v hv
  simp only [pktC, List.mem_cons, List.mem_append] at hv
  rcases hv with rfl | rfl | hv | hv | hv | hv
  all_goals first | rfl | exact cellsB_one _ v hv
/-- A cut of cells. -/
theorem cut_cells (a b c : List Value) (i n : Nat) (h1 : a.length = i) (h2 : b.length = n) : ((a ++ (b ++ c)).drop i).take n = b := by
  subst h1 h2
  rw [List.drop_left, List.take_left]
section
variable {p : Pkt} (h : p.ok)
include h
theorem pktC_nonce : ((pktC p).drop 2).take 16 = cellsB p.nonce := cut_cells [.int .u16 (p.who : Int), .int .u32 (p.epoch : Int)] _ _ 2 16 rfl (by rw [cellsB_length, h.nonce])
theorem pktC_mac : ((pktC p).drop 18).take 16 = cellsB p.mac := by
  have := cut_cells ([.int .u16 (p.who : Int), .int .u32 (p.epoch : Int)] ++ cellsB p.nonce) (cellsB p.mac) (cellsB p.head ++ cellsB p.body) 18 16 (by simp [cellsB_length, h.nonce]) (by rw [cellsB_length, h.mac])
  rwa [List.append_assoc] at this
theorem pktC_head : ((pktC p).drop 34).take 320 = cellsB p.head := by
  have := cut_cells ([.int .u16 (p.who : Int), .int .u32 (p.epoch : Int)] ++ (cellsB p.nonce ++ cellsB p.mac)) (cellsB p.head) (cellsB p.body) 34 320 (by simp [cellsB_length, h.nonce, h.mac]) (by rw [cellsB_length, h.head])
  simpa [List.append_assoc, pktC] using this
theorem pktC_body : ((pktC p).drop 354).take 256 = cellsB p.body := by
  have := cut_cells ([.int .u16 (p.who : Int), .int .u32 (p.epoch : Int)] ++ (cellsB p.nonce ++ (cellsB p.mac ++ cellsB p.head))) (cellsB p.body) [] 354 256 (by simp [cellsB_length, h.nonce, h.mac, h.head]) (by rw [cellsB_length, h.body])
  simpa [List.append_assoc, pktC] using this
end
theorem aggS : Agg Tryz.prog 51 40 := Agg.of (by kernel_rfl) (by kernel_rfl)
theorem aggP : Agg Tryz.prog 34 610 := Agg.of (by kernel_rfl) (by kernel_rfl)
theorem aggN : Agg Tryz.prog 30 16 := Agg.of (by kernel_rfl) (by kernel_rfl)
theorem aggM : Agg Tryz.prog 31 16 := Agg.of (by kernel_rfl) (by kernel_rfl)
theorem agg16 : Agg Tryz.prog 29 16 := Agg.of (by kernel_rfl) (by kernel_rfl)
theorem agg320 : Agg Tryz.prog 32 320 := Agg.of (by kernel_rfl) (by kernel_rfl)
theorem agg256 : Agg Tryz.prog 24 256 := Agg.of (by kernel_rfl) (by kernel_rfl)
theorem zeroS : (Tryz.prog.info? 51).map (fun i => i.zero) = some (some (.agg (slotC slot0).toArray)) := by kernel_rfl
theorem zeroP : (Tryz.prog.info? 34).map (fun i => i.zero) = some (some (.agg (pktC pkt0).toArray)) := by kernel_rfl
theorem zeroN : (Tryz.prog.info? 30).map (fun i => i.zero) = some (some (.agg (cellsB Z16).toArray)) := by kernel_rfl
theorem zeroM : (Tryz.prog.info? 31).map (fun i => i.zero) = some (some (.agg (cellsB Z16).toArray)) := by kernel_rfl
theorem zero16 : (Tryz.prog.info? 29).map (fun i => i.zero) = some (some (.agg (cellsB Z16).toArray)) := by kernel_rfl
theorem zero64 : (Tryz.prog.info? 84).map (fun i => i.zero) = some (some (.agg (cellsB (zeros 64)).toArray)) := by kernel_rfl
theorem zeroW : (Tryz.prog.info? 89).map (fun i => i.zero) = some (some (.agg [Value.slice none 0 0].toArray)) := by kernel_rfl
theorem slot0_len : (slotC slot0).toArray.size = 40 := rfl
theorem pkt0_len : (pktC pkt0).toArray.size = 610 := by rw [List.size_toArray, pktC_length pkt0_ok]
theorem Z16_len : (cellsB Z16).toArray.size = 16 := rfl
theorem z64_len : (cellsB (zeros 64)).toArray.size = 64 := by rw [List.size_toArray, cellsB_length, zeros_length]
theorem underN : Tryz.prog.underlying 30 = some (.array 16 5) := by kernel_rfl
theorem underM : Tryz.prog.underlying 31 = some (.array 16 5) := by kernel_rfl
theorem under320 : Tryz.prog.underlying 32 = some (.array 320 5) := by kernel_rfl
theorem under256 : Tryz.prog.underlying 24 = some (.array 256 5) := by kernel_rfl
/-- A value put into a variable of its own. -/
theorem wpl_boxa {P : Program} {ops : Array Oper} {rest : List Oper} {op : Oper} {a : Act} {w : World} {Q : Exit → Act → World → Prop} (hgd : op.guard = none) (t : TypeId) (x : Operand) (ho : op.op = .box t x)
    (cs : List Value) (hx : a.eval x = .agg cs.toArray)
    (h : ∀ g w', Blk w' g t cs.toArray → w.heap.size ≤ g → Frm (fun _ => False) w w' → wpList P ops Q rest (a.put op.dst (.pointer (some ⟨g, 0, none⟩))) w') : wpList P ops Q (op :: rest) a w := by
  refine wpList_plain hgd fun K hK => ?_
  unfold Oper.wp execOp
  simp [ho, hx, Instr.box, newVar, newRow, Value.cells, Oper.upon, Result.andThen]
  exact hK _ _ (h _ _ (Blk.new _ _ _) (Nat.le_refl _) (Frm.alloc _ _ _))
theorem splice_set {α : Type} (cs : List α) (o : Nat) (v : α) (r : List α) (h : o < cs.length) : splice (cs.set o v) (o + 1) r = splice cs o (v :: r) := by
  unfold splice
  rw [List.take_add_one, List.getElem?_set_self h, List.take_set_of_le (Nat.le_refl _), List.drop_set_of_lt (by omega), List.length_cons, show o + 1 + r.length = o + (r.length + 1) by omega]
  simp
theorem Blk.setL {w : World} {g : Nat} {t : TypeId} {cs : List Value} (h : Blk w g t cs.toArray) (i : Nat) (v : Value) : Blk (w.setCell ⟨g, i, none⟩ v) g t (cs.set i v).toArray := by
  have := h.set i v
  simpa using this
theorem blk_setCellsL {g : Nat} {t : TypeId} : ∀ (vs : List Value) (o : Nat) (w : World) (cs : List Value), Blk w g t cs.toArray → o + vs.length ≤ cs.length → Blk (w.setCells g o vs) g t (splice cs o vs).toArray ∧ Frm (fun k => k = g) w (w.setCells g o vs)
  | [], o, w, cs, h, _ => ⟨by simpa [splice, World.setCells] using h, Frm.refl _ _⟩
  | v :: r, o, w, cs, h, hl => by
    rw [List.length_cons] at hl
    obtain ⟨h1, h3⟩ := blk_setCellsL r (o + 1) (w.setCell ⟨g, o, none⟩ v) _ (h.setL o v) (by rw [List.length_set]; omega)
    rw [splice_set cs o v r (by omega)] at h1
    exact ⟨h1, (Frm.setCell w ⟨g, o, none⟩ v (fun k => k = g) rfl).trans h3 (fun i _ hi => hi)⟩
/-- Cells into the middle of a block. -/
theorem wpl_storem {P : Program} {ty : TypeId} {n : Nat} (hA : Agg P ty n) {ops : Array Oper} {rest : List Oper} {op : Oper} {a : Act} {w : World} {Q : Exit → Act → World → Prop} (hgd : op.guard = none) (x y : Operand) (ho : op.op = .store ty x y)
    (g off : Nat) (vs cs cs' : List Value) (hx : a.eval x = .pointer (some ⟨g, off, none⟩)) (hy : a.eval y = .agg vs.toArray) (t : TypeId) (hb : Blk w g t cs.toArray) (hn : vs.length = n) (hfit : off + n ≤ cs.length) (hc : splice cs off vs = cs') (h1 : ∀ v ∈ vs, v.oneCell' = true)
    (h : ∀ w', Blk w' g t cs'.toArray → Frm (fun k => k = g) w w' → wpList P ops Q rest (a.put op.dst undef) w') : wpList P ops Q (op :: rest) a w := by
  refine wpList_store_mid hgd _ x y ho g off vs.toArray hx hy (fun q hq => ⟨?_, hb.frozen _⟩) ?_ (all_oneCell_toArray h1) ?_
  · have hq4 : q < n := by rw [← hn]; simpa using hq
    rw [hb.cell, Array.getElem?_eq_getElem (by rw [List.size_toArray]; omega)]; rfl
  · rw [hA.2, ← hn]; simp
  · obtain ⟨h2, h3⟩ := blk_setCellsL vs off w cs hb (by omega)
    rw [hc] at h2
    exact h _ h2 h3
/-- An operation that tells a value, guarded or not. -/
theorem wpl_held {P : Program} {ops : Array Oper} {rest : List Oper} {op : Oper} {a : Act} {w : World} {Q : Exit → Act → World → Prop} (v : Value) (hv : (execOp a.eval op).run P w = .ok (.value v) w) (hw : Region.wanted op (yielded ops a.tmps) = true)
    (h : wpList P ops Q rest (a.put op.dst v) w) : wpList P ops Q (op :: rest) a w := by
  refine wpList_step fun K hK => ?_
  rw [if_pos hw]
  unfold Oper.wp
  rw [hv]
  exact hK _ _ h
theorem held_loada {P : Program} {ty : TypeId} {n : Nat} (hA : Agg P ty n) {o : Oper} {a : Act} {w : World} (x : Operand) (ho : o.op = .load ty x) (g off : Nat) (hx : a.eval x = .pointer (some ⟨g, off, none⟩)) (t : TypeId) (cs xs : List Value) (hb : Blk w g t cs.toArray) (hxs : (cs.drop off).take n = xs) (hn : off + n ≤ cs.length) :
    (execOp a.eval o).run P w = .ok (.value (.agg xs.toArray)) w := by
  unfold execOp
  simp only [ho, hx, Instr.loadAt, Instr.sureAddr, Sem.run_bind, Sem.run_pure, Result.andThen_ok, run_load_agg hA w g off t cs xs hb hxs hn]
theorem held_build {P : Program} {o : Oper} {a : Act} {w : World} (t : TypeId) (parts : Array (Nat × Operand)) (ho : o.op = .build t parts) (vs : List (Nat × Value)) (cs : List Value)
    (hr : (Instr.build t vs.toArray).run P w = .ok (.agg cs.toArray) w) (hv : (parts.toList.map fun (i, x) => (i, a.eval x)) = vs) : (execOp a.eval o).run P w = .ok (.value (.agg cs.toArray)) w := by
  have e : (parts.map fun (i, x) => (i, a.eval x)) = vs.toArray := by
    subst hv
    apply Array.ext'
    simp
  unfold execOp
  simp only [ho, e, hr, Sem.run_bind, Result.andThen_ok, Sem.run_pure]
theorem held_eql {P : Program} {o : Oper} {a : Act} {w : World} (t u : TypeId) (x y : Operand) (ho : o.op = .binOp .eql t x y u) (xs ys : List Value) (hx : a.eval x = .agg xs.toArray) (hy : a.eval y = .agg ys.toArray) (b : Bool)
    (hb : (Op.equalIn 10000 t (.agg xs.toArray) (.agg ys.toArray)).run P w = .ok b w) (hg : P.eqGuardType P.depth t = false) : (execOp a.eval o).run P w = .ok (.value (.bool b)) w := by
  unfold execOp
  simp only [ho, hx, hy, Sem.run_bind, run_eqGuard_agg w _ t x y _ _ hg, run_eql_struct, hb, Result.andThen_ok, Sem.run_pure]
theorem held_neq {P : Program} {o : Oper} {a : Act} {w : World} (t u : TypeId) (x y : Operand) (ho : o.op = .binOp .neq t x y u) (xs ys : List Value) (hx : a.eval x = .agg xs.toArray) (hy : a.eval y = .agg ys.toArray) (b : Bool)
    (hb : (Op.equalIn 10000 t (.agg xs.toArray) (.agg ys.toArray)).run P w = .ok b w) (hg : P.eqGuardType P.depth t = false) : (execOp a.eval o).run P w = .ok (.value (.bool (!b))) w := by
  unfold execOp
  simp only [ho, hx, hy, Sem.run_bind, run_eqGuard_agg w _ t x y _ _ hg, run_neq_struct, hb, Result.andThen_ok, Sem.run_pure]
theorem part_one {P : Program} {t : TypeId} {d : TypeDesc} (hu : P.underlying t = some d) (hd : isAggD d = false) (cs : List Value) (off : Nat) (v : Value) (hv : cs[off]? = some v) (w : World) : (part t cs.toArray off).run P w = .ok v w := by
  have hagg : (isAgg t).run P w = .ok false w := by
    unfold isAgg
    rw [Sem.run_bind, run_underlying hu w]
    cases d <;> simp_all [isAggD]
  simp [part, Sem.run_bind, hagg, hv]
theorem part_agg {P : Program} {t : TypeId} {n : Nat} (hA : Agg P t n) (cs xs : List Value) (off : Nat) (hx : (cs.drop off).take n = xs) (w : World) : (part t cs.toArray off).run P w = .ok (.agg xs.toArray) w := by
  obtain ⟨⟨d, hu, hd⟩, hi⟩ := hA
  have hagg : (isAgg t).run P w = .ok true w := by
    unfold isAgg
    rw [Sem.run_bind, run_underlying hu w]
    cases d <;> simp_all [isAggD]
  cases hq : P.info? t with
  | none => simp [hq] at hi
  | some i =>
    have hs : i.size = n := by simpa [hq] using hi
    have e : cs.toArray.extract off (off + n) = xs.toArray := by
      subst hx
      simp [List.extract_eq_take_drop]
    simp only [part, Sem.run_bind, hagg, Result.andThen_ok, if_true, sizeOf, typeInfo]
    simp [hq, hs, ← e]
theorem size8w (w : World) : (sizeOf 5).run Tryz.prog w = .ok 1 w := by
  have hi := size8
  cases hq : Tryz.prog.info? 5 with
  | none => simp [hq] at hi
  | some i =>
    have hs : i.size = 1 := by simpa [hq] using hi
    simp [sizeOf, typeInfo, hq, hs]
/-- Arrays of bytes compared. -/
theorem eq_bytes (d : Nat) {t : TypeId} {n : Nat} (hu : Tryz.prog.underlying t = some (.array n 5)) (xs ys : List UInt8) (hx : xs.length = n) (hy : ys.length = n) (w : World) : (Op.equalIn (d + 2) t (.agg (cellsB xs).toArray) (.agg (cellsB ys).toArray)).run Tryz.prog w = .ok (xs == ys) w :=
  run_equalIn_bytes w d t 5 n hu under5 size8w xs ys hx hy
def nateq (a b : Nat) : Bool := (a : Int) == (b : Int)
theorem nateq_iff {a b : Nat} : nateq a b = true ↔ a = b := by simp only [nateq, beq_iff_eq]; omega
def slotEq (x y : Slot) : Bool := (x.last == y.last) && (nateq x.next y.next && (nateq x.box y.box && (nateq x.who y.who && (nateq x.epoch y.epoch && ((x.nonce == y.nonce) && ((x.mac == y.mac) && (nateq x.lo y.lo && (nateq x.hi y.hi && nateq x.delay y.delay))))))))
theorem slotEq_iff {x y : Slot} : slotEq x y = true ↔ x = y := by
  constructor
  · intro h
    simp only [slotEq, Bool.and_eq_true, nateq_iff, beq_iff_eq] at h
    obtain ⟨h0, h1, h2, h3, h4, h5, h6, h7, h8, h9⟩ := h
    exact Slot.ext' h0 h1 h2 h3 h4 h5 h6 h7 h8 h9
  · rintro rfl
    simp [slotEq, nateq_iff, nateq]
def pktEq (x y : Pkt) : Bool := nateq x.who y.who && (nateq x.epoch y.epoch && ((x.nonce == y.nonce) && ((x.mac == y.mac) && ((x.head == y.head) && (x.body == y.body)))))
theorem pktEq_iff {x y : Pkt} : pktEq x y = true ↔ x = y := by
  constructor
  · intro h
    simp only [pktEq, Bool.and_eq_true, nateq_iff, beq_iff_eq] at h
    obtain ⟨h3, h4, h5, h6, h7, h8⟩ := h
    exact Pkt.ext' h3 h4 h5 h6 h7 h8
  · rintro rfl
    simp [pktEq, nateq_iff, nateq]
/-- One field compared, then the others. -/
theorem eqF_one {P : Program} {d : Nat} {xs ys : List Value} {f : Field} {fs : List Field} (hn : f.name ≠ "_") {u v : Value} {b c : Bool} (w : World)
    (h1 : (part f.type xs.toArray f.offset).run P w = .ok u w) (h2 : (part f.type ys.toArray f.offset).run P w = .ok v w) (h3 : (Op.equalIn d f.type u v).run P w = .ok b w)
    (h4 : (Op.eqFields d xs.toArray ys.toArray fs).run P w = .ok c w) : (Op.eqFields d xs.toArray ys.toArray (f :: fs)).run P w = .ok (b && c) w := by
  simp only [Op.eqFields, if_pos hn, Sem.run_bind, h1, h2, h3, Result.andThen_ok]
  cases b
  · simp
  · simp [h4]
theorem eqF_nil {P : Program} {d : Nat} {xs ys : Array Value} (w : World) : (Op.eqFields d xs ys []).run P w = .ok true w := rfl
theorem eq_int (d : Nat) {t : TypeId} {k : IntKind} (h : Tryz.prog.underlying t = some (.int k)) (a b : Nat) (w : World) : (Op.equalIn (d + 1) t (.int k (a : Int)) (.int k (b : Int))).run Tryz.prog w = .ok (nateq a b) w :=
  run_equalIn_int w d t k k _ _ h
theorem eq_slot {x y : Slot} (hx : x.ok) (hy : y.ok) (w : World) : (Op.equalIn 10000 51 (.agg (slotC x).toArray) (.agg (slotC y).toArray)).run Tryz.prog w = .ok (slotEq x y) w := by
  have hu := Tryz.underlying51
  rw [run_equalIn_agg w 9999 51 _ _ (by simp only [Program.fieldsOf, hu]) Tryz.stoodInHeld51]
  simp only [Program.fieldsOf, hu]
  have e : slotEq x y = ((x.last == y.last) && (nateq x.next y.next && (nateq x.box y.box && (nateq x.who y.who && (nateq x.epoch y.epoch && ((x.nonce == y.nonce) && ((x.mac == y.mac) && (nateq x.lo y.lo && (nateq x.hi y.hi && (nateq x.delay y.delay && true)))))))))) := by
    rw [Bool.and_true]; rfl
  rw [e]
  refine eqF_one (by decide) w (part_one Tryz.underlying4 rfl _ _ (.bool x.last) rfl w) (part_one Tryz.underlying4 rfl _ _ (.bool y.last) rfl w) (run_equalIn_bool' w _ _ _ _ Tryz.underlying4) ?_
  refine eqF_one (by decide) w (part_one Tryz.underlying48 rfl _ _ (.int .u16 (x.next : Int)) rfl w) (part_one Tryz.underlying48 rfl _ _ (.int .u16 (y.next : Int)) rfl w) (eq_int _ Tryz.underlying48 _ _ w) ?_
  refine eqF_one (by decide) w (part_one Tryz.underlying39 rfl _ _ (.int .u16 (x.box : Int)) rfl w) (part_one Tryz.underlying39 rfl _ _ (.int .u16 (y.box : Int)) rfl w) (eq_int _ Tryz.underlying39 _ _ w) ?_
  refine eqF_one (by decide) w (part_one Tryz.underlying27 rfl _ _ (.int .u16 (x.who : Int)) rfl w) (part_one Tryz.underlying27 rfl _ _ (.int .u16 (y.who : Int)) rfl w) (eq_int _ Tryz.underlying27 _ _ w) ?_
  refine eqF_one (by decide) w (part_one Tryz.underlying28 rfl _ _ (.int .u32 (x.epoch : Int)) rfl w) (part_one Tryz.underlying28 rfl _ _ (.int .u32 (y.epoch : Int)) rfl w) (eq_int _ Tryz.underlying28 _ _ w) ?_
  refine eqF_one (by decide) w (part_agg aggN _ _ _ (slotC_nonce hx.nonce) w) (part_agg aggN _ _ _ (slotC_nonce hy.nonce) w) (eq_bytes _ underN _ _ hx.nonce hy.nonce w) ?_
  refine eqF_one (by decide) w (part_agg aggM _ _ _ (slotC_mac hx.nonce hx.mac) w) (part_agg aggM _ _ _ (slotC_mac hy.nonce hy.mac) w) (eq_bytes _ underM _ _ hx.mac hy.mac w) ?_
  refine eqF_one (by decide) w (part_one Tryz.underlying49 rfl _ _ _ (slotC_lo hx.nonce hx.mac) w) (part_one Tryz.underlying49 rfl _ _ _ (slotC_lo hy.nonce hy.mac) w) (eq_int _ Tryz.underlying49 _ _ w) ?_
  refine eqF_one (by decide) w (part_one Tryz.underlying49 rfl _ _ _ (slotC_hi hx.nonce hx.mac) w) (part_one Tryz.underlying49 rfl _ _ _ (slotC_hi hy.nonce hy.mac) w) (eq_int _ Tryz.underlying49 _ _ w) ?_
  exact eqF_one (by decide) w (part_one Tryz.underlying28 rfl _ _ _ (slotC_delay hx.nonce hx.mac) w) (part_one Tryz.underlying28 rfl _ _ _ (slotC_delay hy.nonce hy.mac) w) (eq_int _ Tryz.underlying28 _ _ w) (eqF_nil w)
theorem eq_pkt {x y : Pkt} (hx : x.ok) (hy : y.ok) (w : World) : (Op.equalIn 10000 34 (.agg (pktC x).toArray) (.agg (pktC y).toArray)).run Tryz.prog w = .ok (pktEq x y) w := by
  have hu := Tryz.underlying34
  rw [run_equalIn_agg w 9999 34 _ _ (by simp only [Program.fieldsOf, hu]) Tryz.stoodInHeld34]
  simp only [Program.fieldsOf, hu]
  have e : pktEq x y = (nateq x.who y.who && (nateq x.epoch y.epoch && ((x.nonce == y.nonce) && ((x.mac == y.mac) && ((x.head == y.head) && ((x.body == y.body) && true)))))) := by
    rw [Bool.and_true]; rfl
  rw [e]
  refine eqF_one (by decide) w (part_one Tryz.underlying27 rfl _ _ (.int .u16 (x.who : Int)) rfl w) (part_one Tryz.underlying27 rfl _ _ (.int .u16 (y.who : Int)) rfl w) (eq_int _ Tryz.underlying27 _ _ w) ?_
  refine eqF_one (by decide) w (part_one Tryz.underlying28 rfl _ _ (.int .u32 (x.epoch : Int)) rfl w) (part_one Tryz.underlying28 rfl _ _ (.int .u32 (y.epoch : Int)) rfl w) (eq_int _ Tryz.underlying28 _ _ w) ?_
  refine eqF_one (by decide) w (part_agg aggN _ _ _ (pktC_nonce hx) w) (part_agg aggN _ _ _ (pktC_nonce hy) w) (eq_bytes _ underN _ _ hx.nonce hy.nonce w) ?_
  refine eqF_one (by decide) w (part_agg aggM _ _ _ (pktC_mac hx) w) (part_agg aggM _ _ _ (pktC_mac hy) w) (eq_bytes _ underM _ _ hx.mac hy.mac w) ?_
  refine eqF_one (by decide) w (part_agg agg320 _ _ _ (pktC_head hx) w) (part_agg agg320 _ _ _ (pktC_head hy) w) (eq_bytes _ under320 _ _ hx.head hy.head w) ?_
  exact eqF_one (by decide) w (part_agg agg256 _ _ _ (pktC_body hx) w) (part_agg agg256 _ _ _ (pktC_body hy) w) (eq_bytes _ under256 _ _ hx.body hy.body w) (eqF_nil w)
theorem set_mid (x y z : List Value) (u v : Value) (i : Nat) (h1 : x.length = i) : (x ++ (u :: z)).set i v = x ++ (v :: z) := by
  subst h1
  rw [List.set_append_right _ _ (Nat.le_refl _), Nat.sub_self]
  rfl
section
variable {s : Slot} (h1 : s.nonce.length = 16) (h2 : s.mac.length = 16)
include h1 h2
theorem slotC_slo (n : Nat) : (slotC s).set 37 (.int .u64 (n : Int)) = slotC { s with lo := n } := by
  have := set_mid ([.bool s.last, .int .u16 (s.next : Int), .int .u16 (s.box : Int), .int .u16 (s.who : Int), .int .u32 (s.epoch : Int)] ++ (cellsB s.nonce ++ cellsB s.mac)) [] [.int .u64 (s.hi : Int), .int .u32 (s.delay : Int)] (.int .u64 (s.lo : Int)) (.int .u64 (n : Int)) 37 (by simp [cellsB_length, h1, h2])
  simpa [slotC, List.append_assoc] using this
theorem slotC_shi (n : Nat) : (slotC s).set 38 (.int .u64 (n : Int)) = slotC { s with hi := n } := by
  have := set_mid ([.bool s.last, .int .u16 (s.next : Int), .int .u16 (s.box : Int), .int .u16 (s.who : Int), .int .u32 (s.epoch : Int)] ++ (cellsB s.nonce ++ (cellsB s.mac ++ [.int .u64 (s.lo : Int)]))) [] [.int .u32 (s.delay : Int)] (.int .u64 (s.hi : Int)) (.int .u64 (n : Int)) 38 (by simp [cellsB_length, h1, h2])
  simpa [slotC, List.append_assoc] using this
theorem slotC_sdelay (n : Nat) : (slotC s).set 39 (.int .u32 (n : Int)) = slotC { s with delay := n } := by
  have := set_mid ([.bool s.last, .int .u16 (s.next : Int), .int .u16 (s.box : Int), .int .u16 (s.who : Int), .int .u32 (s.epoch : Int)] ++ (cellsB s.nonce ++ (cellsB s.mac ++ [.int .u64 (s.lo : Int), .int .u64 (s.hi : Int)]))) [] [] (.int .u32 (s.delay : Int)) (.int .u32 (n : Int)) 39 (by simp [cellsB_length, h1, h2])
  simpa [slotC, List.append_assoc] using this
omit h2 in
theorem slotC_snonce (l : List UInt8) (hl : l.length = 16) : splice (slotC s) 5 (cellsB l) = slotC { s with nonce := l } :=
  splice_mid [.bool s.last, .int .u16 (s.next : Int), .int .u16 (s.box : Int), .int .u16 (s.who : Int), .int .u32 (s.epoch : Int)] (cellsB s.nonce) _ (cellsB l) 5 rfl (by rw [cellsB_length, cellsB_length, h1, hl])
theorem slotC_smac (l : List UInt8) (hl : l.length = 16) : splice (slotC s) 21 (cellsB l) = slotC { s with mac := l } := by
  have := splice_mid ([.bool s.last, .int .u16 (s.next : Int), .int .u16 (s.box : Int), .int .u16 (s.who : Int), .int .u32 (s.epoch : Int)] ++ cellsB s.nonce) (cellsB s.mac) [.int .u64 (s.lo : Int), .int .u64 (s.hi : Int), .int .u32 (s.delay : Int)] (cellsB l) 21 (by simp [cellsB_length, h1]) (by rw [cellsB_length, cellsB_length, h2, hl])
  simpa [slotC, List.append_assoc] using this
end
section
variable {p : Pkt} (h : p.ok)
include h
theorem pktC_smac (l : List UInt8) (hl : l.length = 16) : splice (pktC p) 18 (cellsB l) = pktC { p with mac := l } := by
  have := splice_mid ([.int .u16 (p.who : Int), .int .u32 (p.epoch : Int)] ++ cellsB p.nonce) (cellsB p.mac) (cellsB p.head ++ cellsB p.body) (cellsB l) 18 (by simp [cellsB_length, h.nonce]) (by rw [cellsB_length, cellsB_length, h.mac, hl])
  simpa [pktC, List.append_assoc] using this
theorem pktC_shead (l : List UInt8) (hl : l.length = 320) : splice (pktC p) 34 (cellsB l) = pktC { p with head := l } := by
  have := splice_mid ([.int .u16 (p.who : Int), .int .u32 (p.epoch : Int)] ++ (cellsB p.nonce ++ cellsB p.mac)) (cellsB p.head) (cellsB p.body) (cellsB l) 34 (by simp [cellsB_length, h.nonce, h.mac]) (by rw [cellsB_length, cellsB_length, h.head, hl])
  simpa [pktC, List.append_assoc] using this
theorem pktC_sbody (l : List UInt8) (hl : l.length = 256) : splice (pktC p) 354 (cellsB l) = pktC { p with body := l } := by
  have := splice_mid ([.int .u16 (p.who : Int), .int .u32 (p.epoch : Int)] ++ (cellsB p.nonce ++ (cellsB p.mac ++ cellsB p.head))) (cellsB p.body) [] (cellsB l) 354 (by simp [cellsB_length, h.nonce, h.mac, h.head]) (by rw [cellsB_length, cellsB_length, h.body, hl])
  simpa [pktC, List.append_assoc] using this
end
/-- An aggregate's slice, and the array behind a slice's pointer. -/
theorem slN (g off : Nat) (w : World) : Sem.run Tryz.prog (Instr.sliceAt 30 (.pointer (some ⟨g, off, none⟩)) none none none) w = .ok (.slice (some ⟨g, off, none⟩) 16 16) w := run_slice_arr0 (P := Tryz.prog) (t := 30) (e := 5) (N := 16) underN size8 g off (by omega) w
theorem slM (g off : Nat) (w : World) : Sem.run Tryz.prog (Instr.sliceAt 31 (.pointer (some ⟨g, off, none⟩)) none none none) w = .ok (.slice (some ⟨g, off, none⟩) 16 16) w := run_slice_arr0 (P := Tryz.prog) (t := 31) (e := 5) (N := 16) underM size8 g off (by omega) w
theorem sl64 (g off : Nat) (w : World) : Sem.run Tryz.prog (Instr.sliceAt 84 (.pointer (some ⟨g, off, none⟩)) none none none) w = .ok (.slice (some ⟨g, off, none⟩) 64 64) w := run_slice_arr0 (P := Tryz.prog) (t := 84) (e := 5) (N := 64) under64b size8 g off (by omega) w
theorem sl320 (g off : Nat) (w : World) : Sem.run Tryz.prog (Instr.sliceAt 32 (.pointer (some ⟨g, off, none⟩)) none none none) w = .ok (.slice (some ⟨g, off, none⟩) 320 320) w := run_slice_arr0 (P := Tryz.prog) (t := 32) (e := 5) (N := 320) under320 size8 g off (by omega) w
theorem sl256 (g off : Nat) (w : World) : Sem.run Tryz.prog (Instr.sliceAt 24 (.pointer (some ⟨g, off, none⟩)) none none none) w = .ok (.slice (some ⟨g, off, none⟩) 256 256) w := run_slice_arr0 (P := Tryz.prog) (t := 24) (e := 5) (N := 256) under256 size8 g off (by omega) w
theorem run_arr {t : TypeId} {N : Nat} (hu : Tryz.prog.underlying t = some (.array N 5)) (A : Option Addr) (n c : Nat) (h : N ≤ n) (w : World) : Sem.run Tryz.prog (Instr.arrayAt t (.slice A n c)) w = .ok (.pointer A) w := by
  have h' : ¬ n < N := by omega
  simp [Instr.arrayAt, run_underlying hu, h']
/-- A part of a block of cells that are bytes reads as these. -/
theorem Blk.mid {w : World} {g : Nat} {t : TypeId} {cs : List Value} (h : Blk w g t cs.toArray) (off n : Nat) (l : List UInt8) (hx : (cs.drop off).take n = cellsB l) (hl : l.length = n) : Rds w (some ⟨g, off, none⟩) n (cellsB l) := by
  refine ⟨by rw [cellsB_length, hl], fun _ => ⟨_, rfl, fun j u hu => ?_⟩⟩
  rw [addr_add, h.cell]
  rw [← hx, List.getElem?_take] at hu
  split at hu
  · rw [List.getElem?_drop] at hu
    simpa using hu
  · cases hu
theorem wp_region_class {P : Program} (C : World → Prop) {id : Nat} {Q : Exit → Act → World → Prop} {a : Act} {w : World} {l : List Oper} (hm : P.follows .mixedOrders = true) (hB : Region.lexB .any l.toArray = true) (hC : C w.drew)
    (h : wpQuiet P l.toArray C (fun a' => ∀ w', C w' → Q .normal a' w') l a) : (Code.region id l.toArray true).wp P Q a w :=
  wp_region_quiet (C := C) hm hB hC (by simpa using h)
/-- The cells of a slot in its block. -/
theorem Blk.slot {w : World} {g : Nat} {t : TypeId} {s : Slot} (h : Blk w g t (slotC s).toArray) (hs : s.ok) :
    w.cell? ⟨g, 0, none⟩ = some (.bool s.last) ∧ w.cell? ⟨g, 1, none⟩ = some (.int .u16 (s.next : Int)) ∧ w.cell? ⟨g, 2, none⟩ = some (.int .u16 (s.box : Int)) ∧ w.cell? ⟨g, 3, none⟩ = some (.int .u16 (s.who : Int)) ∧ w.cell? ⟨g, 4, none⟩ = some (.int .u32 (s.epoch : Int)) ∧
    w.cell? ⟨g, 37, none⟩ = some (.int .u64 (s.lo : Int)) ∧ w.cell? ⟨g, 38, none⟩ = some (.int .u64 (s.hi : Int)) ∧ w.cell? ⟨g, 39, none⟩ = some (.int .u32 (s.delay : Int)) := by
  refine ⟨h.cell 0, h.cell 1, h.cell 2, h.cell 3, h.cell 4, ?_, ?_, ?_⟩
  · rw [h.cell, List.getElem?_toArray]; exact slotC_lo hs.nonce hs.mac
  · rw [h.cell, List.getElem?_toArray]; exact slotC_hi hs.nonce hs.mac
  · rw [h.cell, List.getElem?_toArray]; exact slotC_delay hs.nonce hs.mac
theorem build_last (box lo hi delay : Nat) (w : World) : Sem.run Tryz.prog (Instr.build 51 #[(0, .bool true), (2, .int .u16 (box : Int)), (7, .int .u64 (lo : Int)), (8, .int .u64 (hi : Int)), (9, .int .u32 (delay : Int))]) w = .ok (.agg (slotC ⟨true, 0, box, 0, 0, Z16, Z16, lo, hi, delay⟩).toArray) w :=
  run_build w _ _ _ (by kernel_rfl)
theorem build_slot0 (w : World) : Sem.run Tryz.prog (Instr.build 51 #[]) w = .ok (.agg (slotC slot0).toArray) w := run_build w _ _ _ (by kernel_rfl)
set_option maxHeartbeats 1000000 in
set_option maxRecDepth 100000 in
theorem kind_any (s : Slot) (hs : s.ok) (w : World) : Calls Tryz.prog 87 #[.agg (slotC s).toArray] w fun e w' => e = .returned (.agg (slotC (kindM s)).toArray) ∧ Below w.heap.size w w' := by
  have hl := slotC_length s hs.nonce hs.mac
  have HL := hide hl
  have HO := hide (slotC_one s)
  have HS := hide hs
  clear hl hs
  have HK : Hid (slotC (kindM s) = slotC (if s.last = true then ⟨true, 0, s.box, 0, 0, Z16, Z16, s.lo, s.hi, s.delay⟩ else ⟨s.last, s.next, 0, s.who, s.epoch, s.nonce, s.mac, s.lo, s.hi, s.delay⟩)) := rfl
  have HKL : Hid ((slotC (kindM s)).length = 40) := slotC_length _ (kindM_ok HS.out).nonce (kindM_ok HS.out).mac
  have HKO := hide (slotC_one (kindM s))
  rcases hb : s.last with _ | _
  · have hk : slotC (kindM s) = (slotC s).set 2 (.int .u16 0) := by rw [HK.out, if_neg (by rw [hb]; decide)]; rfl
    have HK := hide hk
    clear hk
    go_enter Tryz.func87, Tryz.ntmps87
    go_wp2_with (first
      | ((with_reducible refine wpl_boxa (op := ⟨some 1, _, _, _, _, _⟩) rfl _ _ rfl (slotC s) rfl ?_); intro g1 w1 hB1 hg1 hF1)
      | ((with_reducible refine wpl_alloca (op := ⟨some 2, _, _, _, _, _⟩) rfl _ rfl _ zeroS ?_); intro g2 w2 hB2 hg2 hF2; have hC := hB1.frm hF2 (fun h => h); obtain ⟨c0, c1, c2, c3, c4, c5, c6, c7⟩ := hC.slot HS.out; rw [hb] at c0; have f2 := hC.frozen 2; have hx := hC.setL 2 (.int .u16 0); rw [← HK.out] at hx)
      | (with_reducible refine wpl_loada (op := ⟨some 15, _, _, _, _, _⟩) aggS rfl _ rfl g1 0 rfl _ _ (slotC (kindM s)) hx (by rw [List.drop_zero, List.take_of_length_le (by rw [HKL.out]; exact Nat.le_refl _)]) (by rw [HKL.out]; decide) ?_)
      | ((with_reducible refine wpl_storea aggS rfl (.tmp 2) (.tmp 15) rfl g2 (slotC (kindM s)) rfl rfl _ _ (hB2.frm (Frm.setCell _ ⟨g1, 2, none⟩ _ (fun k => k = g1) rfl) (by have := hB1.lt; omega)) HKL.out slot0_len HKO.out ?_); intro w3 hB3 hF3))
    refine ret_agg aggS rfl rfl g2 _ _ rfl hB3 HKL.out ⟨rfl, ?_⟩
    have h1 : Below w.heap.size w w2 := below_frm ((Frm.below hF1 (Nat.le_refl _) (fun _ h => h.elim))) hF2 hF1.size (fun _ h => h.elim)
    exact below_frm (below_frm h1 (Frm.setCell _ ⟨g1, 2, none⟩ _ (fun k => k = g1) rfl) h1.size (fun k hk => by omega)) hF3 (by have := h1.size; simpa [World.setCell] using this) (fun k hk => by have := hF1.size; omega)
  · have hk : slotC (kindM s) = slotC ⟨true, 0, s.box, 0, 0, Z16, Z16, s.lo, s.hi, s.delay⟩ := by rw [HK.out, if_pos hb]
    have hbd := build_last s.box s.lo s.hi s.delay
    rw [← hk] at hbd
    clear hk HK
    generalize slotC (kindM s) = C at *
    go_enter Tryz.func87, Tryz.ntmps87
    go_wp2_with (first
      | ((with_reducible refine wpl_boxa (op := ⟨some 1, _, _, _, _, _⟩) rfl _ _ rfl (slotC s) rfl ?_); intro g1 w1 hB1 hg1 hF1)
      | ((with_reducible refine wpl_alloca (op := ⟨some 2, _, _, _, _, _⟩) rfl _ rfl _ zeroS ?_); intro g2 w2 hB2 hg2 hF2; have hC := hB1.frm hF2 (fun h => h); obtain ⟨c0, c1, c2, c3, c4, c5, c6, c7⟩ := hC.slot HS.out; rw [hb] at c0)
      | (refine wpl_held (op := ⟨some 13, _, _, _, _, _⟩) (.agg C.toArray) (held_build _ _ rfl _ _ (hbd _) rfl) rfl ?_)
      | ((with_reducible refine wpl_storea aggS rfl (.tmp 2) (.tmp 13) rfl g2 C rfl rfl _ _ hB2 HKL.out slot0_len HKO.out ?_); intro w3 hB3 hF3))
    refine ret_agg aggS rfl rfl g2 _ _ rfl hB3 HKL.out ⟨rfl, ?_⟩
    have h1 : Below w.heap.size w w2 := below_frm ((Frm.below hF1 (Nat.le_refl _) (fun _ h => h.elim))) hF2 hF1.size (fun _ h => h.elim)
    exact below_frm h1 hF3 h1.size (fun k hk => by have := hF1.size; omega)
/-- A step of a region that only reads, by a law of its own. -/
theorem quiet_val {P : Program} {C : World → Prop} {o : Oper} {a : Act} {ops : Array Oper} {K : Act → Prop} (v : Value) (hv : ∀ w, C w → (execOp a.eval o).run P w = .ok (.value v) w) (h : K (a.put o.dst v)) (hw : Region.wanted o (yielded ops a.tmps) = true) :
    if Region.wanted o (yielded ops a.tmps) = true then o.quiet P a C K else K (a.put o.dst undef) := by
  rw [if_pos hw]
  refine ⟨v, fun w hc => ?_, h⟩
  unfold Oper.quietAt
  rw [hv w hc]
  exact ⟨rfl, rfl⟩
/-- It is right, as a bool. -/
def rightB (s : Slot) : Bool := decide (s.lo ≤ s.hi) && slotEq s (kindM s)
theorem rightB_iff {s : Slot} : rightB s = true ↔ rightM s := by
  unfold rightB rightM
  rw [Bool.and_eq_true, decide_eq_true_eq, slotEq_iff]
def errR (s : Slot) : Int := if rightB s = true then 0 else 1
set_option maxHeartbeats 2000000 in
set_option maxRecDepth 100000 in
theorem right_any (s : Slot) (hs : s.ok) (w : World) : Calls Tryz.prog 62 #[.agg (slotC s).toArray] w fun e w' => e = .returned (.int .i64 (errR s)) ∧ Below w.heap.size w w' := by
  have HL := hide (slotC_length s hs.nonce hs.mac)
  have HO := hide (slotC_one s)
  have HS := hide hs
  have HX := hide (eq_slot hs (kindM_ok hs))
  have HKND := hide (kind_any s hs)
  have HE : Hid (errR s = if rightB s = true then 0 else 1) := rfl
  have HRB : Hid (rightB s = (decide (s.lo ≤ s.hi) && slotEq s (kindM s))) := rfl
  have HT : Hid ((slotC s).take 40 = slotC s) := by show _ = _; rw [List.take_of_length_le]; rw [HL.out]; exact Nat.le_refl _
  clear hs
  generalize errR s = E at *
  generalize rightB s = R at *
  generalize slotEq s (kindM s) = b at *
  generalize slotC (kindM s) = D at *
  go_enter Tryz.func62, Tryz.ntmps62
  go_wp2_with ((with_reducible refine wpl_boxa (op := ⟨some 1, _, _, _, _, _⟩) rfl _ _ rfl (slotC s) rfl ?_); intro g1 w1 hB1 hg1 hF1)
  obtain ⟨c0, c1, c2, c3, c4, c5, c6, c7⟩ := hB1.slot HS.out
  have k5 : ∀ W', Below w1.heap.size w1 W' → W'.cell? ⟨g1, 37, none⟩ = some (.int .u64 (s.lo : Int)) := fun W' h => (h.cell hB1.lt).trans c5
  have k6 : ∀ W', Below w1.heap.size w1 W' → W'.cell? ⟨g1, 38, none⟩ = some (.int .u64 (s.hi : Int)) := fun W' h => (h.cell hB1.lt).trans c6
  have HB : Hid (∀ W', Below w1.heap.size w1 W' → Blk W' g1 51 (slotC s).toArray) := fun W' h => hB1.frm (Frm.of_below (S := fun _ => False) h) (fun h => h)
  have HK : ∀ W', Below w1.heap.size w1 W' → Calls Tryz.prog 87 #[.agg (slotC s).toArray] W' (fun e w'' => e = .returned (.agg D.toArray) ∧ Below w1.heap.size w1 w'') :=
    fun W' h => (HKND.out W').mono (fun e w'' ⟨he, hb⟩ => ⟨he, h.trans (hb.mono h.size)⟩)
  have HF1 := hide hF1
  clear c0 c1 c2 c3 c4 c5 c6 c7 hF1 HKND hB1
  refine wp_region_class (fun W' => Below w1.heap.size w1 W') (by kernel_rfl) (by kernel_rfl) (below_drewN (Below.refl _ _) 1) ?_
  by_cases hlo : s.lo ≤ s.hi
  · have hd : decide (s.hi < s.lo) = false := by simp; omega
    have hd2 : ¬ (s.hi : Int) < (s.lo : Int) := by omega
    have HLO : Hid (decide (s.lo ≤ s.hi) = true) := by simpa [Hid] using hlo
    clear hlo
    with_reducible refine wpQuiet_step ?_; intro K hK; go_simp; first | (refine hK _ ?_; clear hK K) | (refine ⟨_, fun w' hw' => rfl, hK _ ?_⟩; clear hK K)
    with_reducible refine wpQuiet_step ?_
    intro K hK
    go_simp
    refine ⟨.int .u64 s.lo, fun w' hw' => ?_, hK _ ?_⟩
    · have hcell0 := k5 w' hw'
      go_simp
    clear hK K
    with_reducible refine wpQuiet_step ?_; intro K hK; go_simp; first | (refine hK _ ?_; clear hK K) | (refine ⟨_, fun w' hw' => rfl, hK _ ?_⟩; clear hK K)
    with_reducible refine wpQuiet_step ?_
    intro K hK
    go_simp
    refine ⟨.int .u64 s.hi, fun w' hw' => ?_, hK _ ?_⟩
    · have hcell0 := k6 w' hw'
      go_simp
    clear hK K
    iterate 2 (with_reducible refine wpQuiet_step ?_; intro K hK; go_simp; first | (refine hK _ ?_; clear hK K) | (refine ⟨_, fun w' hw' => rfl, hK _ ?_⟩; clear hK K))
    with_reducible refine wpQuiet_step ?_
    intro K hK
    refine quiet_val (.agg (slotC s).toArray) (fun w' hw' => held_loada aggS _ rfl g1 0 rfl _ _ (slotC s) (HB.out w' hw') (by rw [List.drop_zero]; exact HT.out) (by rw [HL.out]; exact Nat.le_refl _)) ?_ rfl
    go_simp
    refine hK _ ?_
    clear hK K
    with_reducible refine wpQuiet_step ?_
    intro K hK
    refine quiet_val (.agg (slotC s).toArray) (fun w' hw' => held_loada aggS _ rfl g1 0 rfl _ _ (slotC s) (HB.out w' hw') (by rw [List.drop_zero]; exact HT.out) (by rw [HL.out]; exact Nat.le_refl _)) ?_ rfl
    go_simp
    refine hK _ ?_
    clear hK K
    with_reducible refine wpQuiet_step ?_
    intro K hK
    go_simp
    refine ⟨_, HK, hK _ ?_⟩
    clear hK K
    with_reducible refine wpQuiet_step ?_
    intro K hK
    refine quiet_val (.bool (!b)) (fun w' hw' => held_neq _ _ _ _ rfl (slotC s) D rfl rfl b (HX.out w') Tryz.eqGuardType51) ?_ rfl
    go_simp
    refine hK _ ?_
    clear hK K
    with_reducible refine wpQuiet_step ?_; intro K hK; go_simp; first | (refine hK _ ?_; clear hK K) | (refine ⟨_, fun w' hw' => rfl, hK _ ?_⟩; clear hK K)
    refine wpQuiet_nil ?_
    intro w2 hw2
    have HW2 : Hid (Below w.heap.size w w2) := (HF1.out.below (Nat.le_refl _) (fun _ h => h.elim)).trans (hw2.mono HF1.out.size)
    cases hb : b
    · go_wp2
      go_ret
      exact ⟨by rw [HE.out, HRB.out, HLO.out, hb]; rfl, HW2.out⟩
    · go_wp2
      go_ret
      exact ⟨by rw [HE.out, HRB.out, HLO.out, hb]; rfl, HW2.out⟩
  · have hd : decide (s.hi < s.lo) = true := by simp; omega
    have hd2 : (s.hi : Int) < (s.lo : Int) := by omega
    have HLO : Hid (decide (s.lo ≤ s.hi) = false) := by simpa [Hid] using hlo
    clear hlo
    with_reducible refine wpQuiet_step ?_; intro K hK; go_simp; first | (refine hK _ ?_; clear hK K) | (refine ⟨_, fun w' hw' => rfl, hK _ ?_⟩; clear hK K)
    with_reducible refine wpQuiet_step ?_
    intro K hK
    go_simp
    refine ⟨.int .u64 s.lo, fun w' hw' => ?_, hK _ ?_⟩
    · have hcell0 := k5 w' hw'
      go_simp
    clear hK K
    with_reducible refine wpQuiet_step ?_; intro K hK; go_simp; first | (refine hK _ ?_; clear hK K) | (refine ⟨_, fun w' hw' => rfl, hK _ ?_⟩; clear hK K)
    with_reducible refine wpQuiet_step ?_
    intro K hK
    go_simp
    refine ⟨.int .u64 s.hi, fun w' hw' => ?_, hK _ ?_⟩
    · have hcell0 := k6 w' hw'
      go_simp
    clear hK K
    iterate 2 (with_reducible refine wpQuiet_step ?_; intro K hK; go_simp; first | (refine hK _ ?_; clear hK K) | (refine ⟨_, fun w' hw' => rfl, hK _ ?_⟩; clear hK K))
    with_reducible refine wpQuiet_step ?_
    intro K hK
    go_simp
    refine hK _ ?_
    clear hK K
    with_reducible refine wpQuiet_step ?_
    intro K hK
    go_simp
    refine hK _ ?_
    clear hK K
    with_reducible refine wpQuiet_step ?_
    intro K hK
    go_simp
    refine hK _ ?_
    clear hK K
    with_reducible refine wpQuiet_step ?_
    intro K hK
    go_simp
    refine hK _ ?_
    clear hK K
    with_reducible refine wpQuiet_step ?_; intro K hK; go_simp; first | (refine hK _ ?_; clear hK K) | (refine ⟨_, fun w' hw' => rfl, hK _ ?_⟩; clear hK K)
    refine wpQuiet_nil ?_
    intro w2 hw2
    have HW2 : Hid (Below w.heap.size w w2) := (HF1.out.below (Nat.le_refl _) (fun _ h => h.elim)).trans (hw2.mono HF1.out.size)
    go_wp2
    go_ret
    exact ⟨by rw [HE.out, HRB.out, HLO.out]; rfl, HW2.out⟩
theorem wr_norm {w : World} {g : Nat} {d : Option Nat} {l : List UInt8} (h : Wr w g d l) : ∃ d', Wr w g d' l ∧ ∀ j, d' = some j → d = some j ∧ j < w.heap.size := by
  obtain ⟨v, hb, ho, hd⟩ := h
  refine ⟨v.ownBlock, ⟨v, hb, ho, .inr rfl⟩, fun j hj => ?_⟩
  rcases hd with hd | hd
  · rw [hd] at hj; cases hj
  · refine ⟨by rw [← hd]; exact hj, ?_⟩
    rcases ho.2 with ⟨rfl, _⟩ | ⟨g', cap, cur, rfl, _, hg, _⟩
    · cases hj
    · have : g' = j := by simpa [Value.ownBlock] using hj
      subst this
      exact (Array.getElem?_eq_some_iff.1 hg).1
/-- One put behind another. -/
theorem Put.step {g : Nat} {d d1 : Option Nat} {l2 : List UInt8} {w w1 w2 : World} (hd1 : d1 = d ∨ ∃ j, d1 = some j ∧ w.heap.size ≤ j) (f1 : Frm (fun k => k = g ∨ some k = d) w w1) (h2 : Put g d1 l2 w1 w2) : Put g d l2 w w2 := by
  obtain ⟨d2, hw, hd2, hf2⟩ := h2
  refine ⟨d2, hw, ?_, f1.trans hf2 (fun i hi h => ?_)⟩
  · rcases hd2 with rfl | ⟨j, rfl, hj⟩
    · exact hd1
    · exact .inr ⟨j, rfl, Nat.le_trans f1.size hj⟩
  · rcases h with h | h
    · exact .inl h
    · rcases hd1 with rfl | ⟨j, rfl, hj⟩
      · exact .inr h
      · injection h with h
        omega
/-- .. behind worlds in which nothing that lay turned. -/
theorem Put.from {g : Nat} {d : Option Nat} {l : List UInt8} {w w1 w2 : World} (f1 : Frm (fun _ => False) w w1) (h2 : Put g d l w1 w2) : Put g d l w w2 :=
  Put.step (.inl rfl) (f1.mono (fun _ _ h => h.elim)) h2
theorem Put.to {g : Nat} {d : Option Nat} {l : List UInt8} {w w1 w2 : World} (h : Put g d l w w1) (f : Frm (fun _ => False) w1 w2) : Put g d l w w2 := by
  obtain ⟨d', h1, h2, h3⟩ := h
  exact ⟨d', h1.frm f (fun h => h) (fun _ _ h => h), h2, h3.trans f (fun _ _ h => h.elim)⟩
theorem Put.keep {g gb : Nat} {d : Option Nat} {l : List UInt8} {w w1 : World} (h : Put g d l w w1) {t : TypeId} {cs : Array Value} (hb : Blk w gb t cs) (h1 : gb ≠ g) (h2 : ∀ j, d = some j → j ≠ gb) : Blk w1 gb t cs := by
  obtain ⟨d', _, _, h3⟩ := h
  exact hb.frm h3 (fun e => e.elim (fun e => h1 e) (fun e => h2 gb e.symm rfl))
set_option maxHeartbeats 4000000 in
set_option maxRecDepth 100000 in
theorem putSeal_any (g : Nat) (d : Option Nat) (l : List UInt8) (who epoch : Nat) (nonce mac : List UInt8) (w : World) (hr : Wr w g d l) (hd : ∀ j, d = some j → j < w.heap.size) (hl : l.length ≤ 90000) (h1 : who < 65536) (h2 : epoch < 4294967296) (hn : nonce.length = 16) (hm : mac.length = 16) :
    Calls Tryz.prog 65 #[.pointer (some ⟨g, 0, none⟩), .int .u16 (who : Int), .int .u32 (epoch : Int), .agg (cellsB nonce).toArray, .agg (cellsB mac).toArray] w fun e w' => e = .returned (.tuple #[]) ∧ Put g d (l ++ be 2 who ++ be 4 epoch ++ nonce ++ mac) w w' := by
  have HN := hide hn
  have HM := hide hm
  have HD := hide hd
  have HR := hide hr
  have hsn := slN
  have hsm := slM
  clear hn hm hd hr
  go_enter Tryz.func65, Tryz.ntmps65
  go_wp2_with (first
    | ((with_reducible refine wpl_boxa (op := ⟨some 8, _, _, _, _, _⟩) rfl _ _ rfl (cellsB nonce) rfl ?_); intro g8 w1 hB1 hg1 hF1)
    | ((with_reducible refine wpl_boxa (op := ⟨some 9, _, _, _, _, _⟩) rfl _ _ rfl (cellsB mac) rfl ?_); intro g9 w2 hB2 hg2 hF2))
  have HF : Hid (Frm (fun _ => False) w w2.drew) := (hF1.trans hF2 (fun _ _ h => h)).drew
  have hR2 : Wr w2.drew g d l := HR.out.frm (S := fun _ => False) HF.out (fun h => h) (fun _ _ h => h)
  have hB8 : Blk w2.drew g8 30 (cellsB nonce).toArray := hB1.frm hF2.drew (fun h => h)
  have hB9 : Blk w2.drew g9 31 (cellsB mac).toArray := hB2
  have HN8 : Hid (g8 ≠ g ∧ ∀ j, d = some j → j ≠ g8) := ⟨by have := HR.out.lt; omega, fun j hj => by have := HD.out j hj; omega⟩
  have HN9 : Hid (g9 ≠ g ∧ ∀ j, d = some j → j ≠ g9) := ⟨by have := HR.out.lt; have := hF1.size; omega, fun j hj => by have := HD.out j hj; have := hF1.size; omega⟩
  have hP0 := hide (Put.refl hR2)
  clear hB1 hB2 hg1 hg2 hF1 hF2 HR HD hR2
  refine wp_region_held_drew (S := fun _ => True) (by kernel_rfl) trivial ?_
  intro hHeld
  refine tkH 0 (v := ?v1) rfl ?hy1 ?rest1
  case hy1 => (intro w hSw; (try go_simp); try with_reducible rfl)
  try simp only [Act.put, PTs]
  refine tkH 1 (v := ?v2) rfl ?hy2 ?rest2
  case hy2 => (intro w hSw; (try go_simp); try with_reducible rfl)
  try simp only [Act.put, PTs]
  refine tkH 3 (v := ?v3) rfl ?hy3 ?rest3
  case hy3 => (intro w hSw; (try go_simp); try with_reducible rfl)
  try simp only [Act.put, PTs]
  refine tkH 5 (v := ?v4) rfl ?hy4 ?rest4
  case hy4 => (intro w hSw; (try go_simp); try with_reducible rfl)
  try simp only [Act.put, PTs]
  refine tkH 7 (v := ?v5) rfl ?hy5 ?rest5
  case hy5 => (intro w hSw; (try go_simp); try with_reducible rfl)
  try simp only [Act.put, PTs]
  refine rdH 2 rfl (by kernel_rfl) (fun K hK => ?_)
  go_simp
  obtain ⟨d0, hw0, hd0, hf0⟩ := hP0.out
  refine (wu16_any g d0 (l) _ _ hw0 (by (try simp only [List.length_append, be_length]); omega) (by omega) (by omega)).mono ?_
  rintro e w3 ⟨rfl, hp0⟩
  have hP1 := hide (Put.step hd0 hf0 hp0)
  clear hw0 hd0 hf0 hp0
  refine hK.out _ _ (trivial) (fun hHeld => ?_)
  clear hK K
  refine rdH 4 rfl (by kernel_rfl) (fun K hK => ?_)
  go_simp
  rw [Int.toNat_natCast] at hP1
  obtain ⟨d1, hw1, hd1, hf1⟩ := hP1.out
  refine (wu32_any g d1 (l ++ be 2 who) _ _ hw1 (by (try simp only [List.length_append, be_length]); omega) (by omega) (by omega)).mono ?_
  rintro e w4 ⟨rfl, hp1⟩
  have hP2 := hide (Put.step hd1 hf1 hp1)
  clear hw1 hd1 hf1 hp1
  refine hK.out _ _ (trivial) (fun hHeld => ?_)
  clear hK K
  refine rdH 6 rfl (by kernel_rfl) (fun K hK => ?_)
  go_simp
  rw [Int.toNat_natCast] at hP2
  obtain ⟨d2, hw2, hd2, hf2⟩ := hP2.out
  have hr8 := (hP2.out.keep hB8 HN8.out.1 HN8.out.2).rds
  rw [cellsB_length, HN.out] at hr8
  refine (wbytes_any g d2 (l ++ be 2 who ++ be 4 epoch) nonce (some ⟨g8, 0, none⟩) 16 16 _ hw2 (by (try simp only [List.length_append, be_length]); omega) hr8 (by omega)).mono ?_
  rintro e w5 ⟨rfl, hp2⟩
  have hP3 := hide (Put.step hd2 hf2 hp2)
  clear hw2 hd2 hf2 hp2
  refine hK.out _ _ (trivial) (fun hHeld => ?_)
  clear hK K
  refine rdH 8 rfl (by kernel_rfl) (fun K hK => ?_)
  go_simp
  obtain ⟨d3, hw3, hd3, hf3⟩ := hP3.out
  have hr9 := (hP3.out.keep hB9 HN9.out.1 HN9.out.2).rds
  rw [cellsB_length, HM.out] at hr9
  refine (wbytes_any g d3 (l ++ be 2 who ++ be 4 epoch ++ nonce) mac (some ⟨g9, 0, none⟩) 16 16 _ hw3 (by (try simp only [List.length_append, be_length]); have := HN.out; omega) hr9 (by omega)).mono ?_
  rintro e w6 ⟨rfl, hp3⟩
  have hP4 := hide (Put.step hd3 hf3 hp3)
  clear hw3 hd3 hf3 hp3
  refine hK.out _ _ (trivial) (fun hHeld => ?_)
  clear hK K
  refine wpAnyH_done (by kernel_rfl) ?_ _
  clear hHeld
  go_wp2
  exact end0 rfl rfl ⟨rfl, Put.from HF.out hP4.out⟩
theorem results_seal {fn : Func} {t u p q : Tmp} (h : fn.results = #[.tmp t, .tmp u, .cell p 30, .cell q 31]) (tmps : Array Value) (w : World) (gp gq : Nat) (cs ds : List Value) (hp : tmps.getD p undef = .pointer (some ⟨gp, 0, none⟩)) (hb : Blk w gp 30 cs.toArray) (hn : cs.length = 16)
    (hq : tmps.getD q undef = .pointer (some ⟨gq, 0, none⟩)) (hc : Blk w gq 31 ds.toArray) (hm : ds.length = 16) :
    (results fn tmps).run Tryz.prog w = .ok (.tuple #[tmps.getD t undef, tmps.getD u undef, .agg cs.toArray, .agg ds.toArray]) w := by
  have h1 := run_load_agg aggN w gp 0 _ cs cs hb (by rw [List.drop_zero, List.take_of_length_le (by omega)]) (by omega)
  have h2 := run_load_agg aggM w gq 0 _ ds ds hc (by rw [List.drop_zero, List.take_of_length_le (by omega)]) (by omega)
  have hp' : tmps[p]?.getD undef = .pointer (some ⟨gp, 0, none⟩) := by simpa using hp
  have hq' : tmps[q]?.getD undef = .pointer (some ⟨gq, 0, none⟩) := by simpa using hq
  simp [results, h, hp', hq', asAddr, h1, h2]
set_option maxHeartbeats 4000000 in
set_option maxRecDepth 100000 in
theorem takeSeal_any (g : Nat) (d : Option Nat) (l : List UInt8) (w : World) (hr : Rd w g d l) (hl : 38 ≤ l.length) (hm : l.length ≤ 100000) (hd : ∀ j, d = some j → j < w.heap.size) :
    Calls Tryz.prog 75 #[.pointer (some ⟨g, 0, none⟩)] w fun e w' => e = .returned (.tuple #[.int .u16 (num (l.take 2) : Nat), .int .u32 (num ((l.drop 2).take 4) : Nat), .agg (cellsB ((l.drop 6).take 16)).toArray, .agg (cellsB ((l.drop 22).take 16)).toArray]) ∧ Rd w' g d (l.drop 38) ∧ Frm (fun k => k = g) w w' := by
  have hgl := hr.lt
  obtain ⟨n0, h0⟩ : ∃ n, n = num (l.take 2) := ⟨_, rfl⟩
  obtain ⟨n1, h1⟩ : ∃ n, n = num ((l.drop 2).take 4) := ⟨_, rfl⟩
  obtain ⟨N, h2⟩ : ∃ n, n = (l.drop 6).take 16 := ⟨_, rfl⟩
  obtain ⟨M, h3⟩ : ∃ n, n = (l.drop 22).take 16 := ⟨_, rfl⟩
  have HNL : Hid ((cellsB N).length = 16) := by show _ = _; rw [cellsB_length, h2, List.length_take, List.length_drop]; omega
  have HML : Hid ((cellsB M).length = 16) := by show _ = _; rw [cellsB_length, h3, List.length_take, List.length_drop]; omega
  rw [← h0, ← h1, ← h2, ← h3]
  have H0 := hide h0
  have H1 := hide h1
  have H2 := hide h2
  have H3 := hide h3
  have HR := hide hr
  have HD := hide hd
  have harN := fun (g c : Nat) (w : World) => run_arr underN (some ⟨g, 0, none⟩) 16 c (Nat.le_refl _) w
  have harM := fun (g c : Nat) (w : World) => run_arr underM (some ⟨g, 0, none⟩) 16 c (Nat.le_refl _) w
  clear h0 h1 h2 h3 hr hd
  go_enter Tryz.func75, Tryz.ntmps75
  go_wp2_with (first
    | ((with_reducible refine wpl_alloca (op := ⟨some 4, _, _, _, _, _⟩) rfl _ rfl _ zeroN ?_); intro g4 w1 hB1 hs1 hF1)
    | ((with_reducible refine wpl_alloca (op := ⟨some 5, _, _, _, _, _⟩) rfl _ rfl _ zeroM ?_); intro g5 w2 hB2 hs2 hF2))
  have hF02 : Frm (fun _ => False) w w2 := hF1.trans hF2 (fun _ _ h => h)
  have HG4 : Hid (w.heap.size ≤ g4 ∧ g4 < w2.heap.size ∧ g4 ≠ g ∧ w.heap.size ≤ g5 ∧ g5 < w2.heap.size ∧ g5 ≠ g ∧ g4 ≠ g5) := ⟨hs1, by have := (hB1.frm hF2 (fun h => h)).lt; omega, by omega, by have := hF1.size; omega, hB2.lt, by have := hF1.size; omega, by have := hB1.lt; omega⟩
  refine (u16_ok g d l w2 (HR.out.frm hF02 (fun h => h) (fun _ _ h => h)) (by omega) hm).mono ?_
  rintro e w3 ⟨rfl, hr3, hf3⟩
  rw [← H0.out]
  have hf03 : Frm (fun k => k = g) w w3 := (hF02.mono (fun _ _ h => h.elim)).trans hf3 (fun _ _ h => h)
  have hB43 := (hB1.frm hF2 (fun h => h)).frm hf3 HG4.out.2.2.1
  have hB53 := hB2.frm hf3 HG4.out.2.2.2.2.2.1
  clear hB1 hB2 hF1 hF2 hs1 hs2 hF02
  go_wp2_with fail
  refine (u32_ok g d (l.drop 2) w3 hr3 (by rw [List.length_drop]; omega) (by rw [List.length_drop]; omega)).mono ?_
  rintro e w4 ⟨rfl, hr4, hf4⟩
  rw [← H1.out]
  rw [List.drop_drop] at hr4
  have hf04 := hf03.trans hf4 (fun _ _ h => h)
  have hB44 := hB43.frm hf4 HG4.out.2.2.1
  have hB54 := hB53.frm hf4 HG4.out.2.2.2.2.2.1
  have hz4 := hf3.size
  have hz44 := hf4.size
  clear hf03 hB43 hB53 hr3 hf3
  go_wp2_with fail
  refine (bytes_ok g d (l.drop 6) 16 w4 hr4 (by omega) (by rw [List.length_drop]; omega) (by rw [List.length_drop]; omega)).mono ?_
  rintro e w5 ⟨A5, c5, rfl, ho5, hr5, hf5⟩
  rw [List.drop_drop] at hr5
  rw [show Int.toNat 16 = 16 from rfl] at ho5 hr5
  rw [show Int.toNat 16 = 16 from rfl, ← H2.out] at *
  obtain ⟨ga, ca, rfl, hga, hba, hsa, hta, hca⟩ := own_block ho5 (by omega)
  have hf05 := hf04.trans hf5 (fun _ _ h => h)
  have hB45 := hB44.frm hf5 HG4.out.2.2.1
  have hB55 := hB54.frm hf5 HG4.out.2.2.2.2.2.1
  have hz5 := hf5.size
  have HGA : Hid (ga ≠ g ∧ ga ≠ g4 ∧ ga ≠ g5) := by have := HG4.out; have := hr4.lt; exact ⟨by omega, by omega, by omega⟩
  have HTA := hide hta
  clear hf04 hB44 hB54 hr4 hf4 hf5 ho5 hga hta
  go_wp2_with fail
  refine (bytes_ok g d (l.drop 22) 16 w5 hr5 (by omega) (by rw [List.length_drop]; omega) (by rw [List.length_drop]; omega)).mono ?_
  rintro e w6 ⟨A6, c6, rfl, ho6, hr6, hf6⟩
  rw [List.drop_drop] at hr6
  rw [show Int.toNat 16 = 16 from rfl] at ho6 hr6
  rw [show Int.toNat 16 = 16 from rfl, ← H3.out] at *
  obtain ⟨gb, cb, rfl, hgb, hbb, hsb, htb, hcb⟩ := own_block ho6 (by omega)
  have HF06 := hide (hf05.trans hf6 (fun _ _ h => h))
  have hB46 := hB45.frm hf6 HG4.out.2.2.1
  have hB56 := hB55.frm hf6 HG4.out.2.2.2.2.2.1
  have hba6 := hba.frm hf6 HGA.out.1
  have HGB : Hid (gb ≠ g4 ∧ gb ≠ g5) := by have := HG4.out; exact ⟨by omega, by omega⟩
  have HTB := hide htb
  have HR6 := hide hr6
  rw [← Array.toArray_toList (xs := ca)] at hba6
  rw [← Array.toArray_toList (xs := cb)] at hbb
  have hla : 16 ≤ ca.toList.length := by rw [Array.length_toList]; exact hsa
  have hlb : 16 ≤ cb.toList.length := by rw [Array.length_toList]; exact hsb
  clear hf05 hB45 hB55 hba hr5 hr6 hf6 ho6 hgb htb hsa hsb
  go_wp2_with fail
  have HF6 : Hid (Frm (fun k => k = g) w w6.drew) := HF06.out.drew
  have hB47 : Blk w6.drew g4 30 (cellsB Z16).toArray := hB46
  have hB57 : Blk w6.drew g5 31 (cellsB Z16).toArray := hB56
  have HR7 : Hid (Rd w6.drew g d (l.drop 38)) := HR6.out
  have hba7 : Blk w6.drew ga 5 ca.toList.toArray := hba6
  have hbb7 : Blk w6.drew gb 5 cb.toList.toArray := hbb
  clear hB46 hB56 HR6 hba6 hbb HF06
  refine wp_region_held_drew (S := fun W => Blk W ga 5 ca.toList.toArray ∧ Blk W gb 5 cb.toList.toArray) (by kernel_rfl) ⟨hba7, hbb7⟩ ?_
  intro hHeld
  refine tkH 0 (v := ?v1) rfl ?hy1 ?rest1
  case hy1 => (intro w hSw; (try go_simp); try with_reducible rfl)
  try simp only [Act.put, PTs]
  refine tkH 1 (v := ?v2) rfl ?hy2 ?rest2
  case hy2 => (intro w hSw; (try go_simp); try with_reducible rfl)
  try simp only [Act.put, PTs]
  refine tkH 2 (v := ?v3) rfl ?hy3 ?rest3
  case hy3 => (intro w hSw; (try go_simp); try with_reducible rfl)
  try simp only [Act.put, PTs]
  refine tkH 3 (v := ?v4) rfl ?hy4 ?rest4
  case hy4 => (intro w hSw; (try go_simp); try with_reducible rfl)
  try simp only [Act.put, PTs]
  refine tkH 4 (v := ?v5) rfl ?hy5 ?rest5
  case hy5 => (intro w hSw; refine held_loada aggN (.tmp 37) ?_ ga 0 ?_ _ _ (cellsB N) hSw.1 (by rw [List.drop_zero]; exact HTA.out) (by omega) <;> rfl)
  try simp only [Act.put, PTs]
  refine tkH 5 (v := ?v6) rfl ?hy6 ?rest6
  case hy6 => (intro w hSw; (try go_simp); try with_reducible rfl)
  try simp only [Act.put, PTs]
  refine tkH 6 (v := ?v7) rfl ?hy7 ?rest7
  case hy7 => (intro w hSw; (try go_simp); try with_reducible rfl)
  try simp only [Act.put, PTs]
  refine tkH 7 (v := ?v8) rfl ?hy8 ?rest8
  case hy8 => (intro w hSw; refine held_loada aggM (.tmp 40) ?_ gb 0 ?_ _ _ (cellsB M) hSw.2 (by rw [List.drop_zero]; exact HTB.out) (by omega) <;> rfl)
  try simp only [Act.put, PTs]
  refine tkH 8 (v := ?v9) rfl ?hy9 ?rest9
  case hy9 => (intro w hSw; (try go_simp); try with_reducible rfl)
  try simp only [Act.put, PTs]
  refine tkH 9 (v := ?v10) rfl ?hy10 ?rest10
  case hy10 => (intro w hSw; (try go_simp); try with_reducible rfl)
  try simp only [Act.put, PTs]
  refine rdH 10 rfl (by kernel_rfl) (fun K hK => ?_)
  refine step_storea aggN rfl (.tmp 4) (.tmp 38) rfl g4 (cellsB N) rfl rfl _ _ hB47 HNL.out Z16_len (cellsB_one _) ?_
  intro w8 hB8 hF8
  refine hK.out _ _ (⟨hba7.frm hF8 HGA.out.2.1, hbb7.frm hF8 HGB.out.1⟩) (fun hHeld => ?_)
  clear hK K
  have hba8 := hba7.frm hF8 HGA.out.2.1
  have hbb8 := hbb7.frm hF8 HGB.out.1
  have hB58 := hB57.frm hF8 HG4.out.2.2.2.2.2.2.symm
  refine rdH 11 rfl (by kernel_rfl) (fun K hK => ?_)
  refine step_storea aggM rfl (.tmp 5) (.tmp 41) rfl g5 (cellsB M) rfl rfl _ _ hB58 HML.out Z16_len (cellsB_one _) ?_
  intro w9 hB9 hF9
  refine hK.out _ _ (⟨hba8.frm hF9 HGA.out.2.2, hbb8.frm hF9 HGB.out.2⟩) (fun hHeld => ?_)
  clear hK K
  refine wpAnyH_done (by kernel_rfl) ?_ _
  clear hHeld
  have hB49 := hB8.frm hF9 HG4.out.2.2.2.2.2.2
  go_wp2
  refine bodyPost_ret (results_seal rfl _ _ g4 g5 _ _ rfl hB49 HNL.out rfl hB9 HML.out) rfl ⟨rfl, ?_, ?_⟩
  · refine (HR7.out.frm hF8 (fun e => HG4.out.2.2.1 e.symm) (fun j hj e => ?_)).frm hF9 (fun e => HG4.out.2.2.2.2.2.1 e.symm) (fun j hj e => ?_)
    · have := HD.out j hj; have := HG4.out; omega
    · have := HD.out j hj; have := HG4.out; omega
  · have := HG4.out
    exact (HF6.out.trans hF8 (fun i hi h => absurd h (by omega))).trans hF9 (fun i hi h => absurd h (by omega))
end Go.Proofs.YtoiiiflnnhkjbaaGreatDoor
