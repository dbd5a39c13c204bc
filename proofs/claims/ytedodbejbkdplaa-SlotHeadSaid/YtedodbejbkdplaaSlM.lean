/-
  Slots and packets over lists: what they are, their cells, their bytes.
-/
import Derived.Test.YtedodbejbkdplaaSlWr
import Derived.Stop.BytesEq
namespace Go.Proofs.Ytedodbejbkdplaa
set_option linter.unusedVariables false
set_option linter.unusedSimpArgs false
open Go.RowKit

structure Slot where
  last : Bool
  next : Nat
  box : Nat
  who : Nat
  epoch : Nat
  nonce : List UInt8
  mac : List UInt8
  lo : Nat
  hi : Nat
  delay : Nat

def Z16 : List UInt8 := List.replicate 16 0
theorem Z16_length : Z16.length = 16 := rfl
theorem Slot.ext' {s t : Slot} (h0 : s.last = t.last) (h1 : s.next = t.next) (h2 : s.box = t.box) (h3 : s.who = t.who) (h4 : s.epoch = t.epoch) (h5 : s.nonce = t.nonce) (h6 : s.mac = t.mac) (h7 : s.lo = t.lo) (h8 : s.hi = t.hi) (h9 : s.delay = t.delay) : s = t := by
  cases s; cases t; simp_all

/-- The numbers fit their types. -/
structure Slot.ok (s : Slot) : Prop where
  next : s.next < 65536
  box : s.box < 65536
  who : s.who < 65536
  epoch : s.epoch < 4294967296
  lo : s.lo < 18446744073709551616
  hi : s.hi < 18446744073709551616
  delay : s.delay < 4294967296
  nonce : s.nonce.length = 16
  mac : s.mac.length = 16

/-- The slot of noughts. -/
def slot0 : Slot := ⟨false, 0, 0, 0, 0, Z16, Z16, 0, 0, 0⟩
theorem slot0_ok : slot0.ok := ⟨by decide, by decide, by decide, by decide, by decide, by decide, by decide, rfl, rfl⟩

/-- Its cells. -/
def slotC (s : Slot) : List Value :=
  .bool s.last :: .int .u16 (s.next : Int) :: .int .u16 (s.box : Int) :: .int .u16 (s.who : Int) :: .int .u32 (s.epoch : Int) :: (cellsB s.nonce ++ (cellsB s.mac ++ [.int .u64 (s.lo : Int), .int .u64 (s.hi : Int), .int .u32 (s.delay : Int)]))
def slotV (s : Slot) : Value := .agg (slotC s).toArray
theorem slotC_length (s : Slot) (h1 : s.nonce.length = 16) (h2 : s.mac.length = 16) : (slotC s).length = 40 := by
  simp [slotC, cellsB_length, h1, h2]
theorem slotC_one (s : Slot) : ∀ v ∈ slotC s, v.oneCell' = true := by
  intro v hv
  simp only [slotC, List.mem_cons, List.mem_append, List.not_mem_nil, or_false] at hv
  rcases hv with rfl | rfl | rfl | rfl | rfl | hv | hv | rfl | rfl | rfl
  all_goals first | rfl | exact cellsB_one _ v hv
section
variable {s : Slot} (h1 : s.nonce.length = 16) (h2 : s.mac.length = 16)
include h1
theorem slotC_nonce : ((slotC s).drop 5).take 16 = cellsB s.nonce := by
  show (cellsB s.nonce ++ _).take 16 = _
  rw [← h1, ← cellsB_length, List.take_left]
include h2
theorem slotC_mac : ((slotC s).drop 21).take 16 = cellsB s.mac := by
  show ((cellsB s.nonce ++ (cellsB s.mac ++ _)).drop 16).take 16 = _
  rw [List.drop_append_of_le_length (by rw [cellsB_length, h1]; omega), List.drop_eq_nil_of_le (by rw [cellsB_length, h1]; omega), List.nil_append]
  rw [← h2, ← cellsB_length, List.take_left]
theorem slotC_tail : (slotC s).drop 37 = [.int .u64 (s.lo : Int), .int .u64 (s.hi : Int), .int .u32 (s.delay : Int)] := by
  show (cellsB s.nonce ++ (cellsB s.mac ++ _)).drop 32 = _
  rw [← List.append_assoc, List.drop_append_of_le_length (by simp [cellsB_length, h1, h2]), List.drop_eq_nil_of_le (by simp [cellsB_length, h1, h2]), List.nil_append]
theorem slotC_lo : (slotC s)[37]? = some (.int .u64 (s.lo : Int)) := by
  have := slotC_tail h1 h2
  have h := congrArg (fun l => l[0]?) this
  simpa using h
theorem slotC_hi : (slotC s)[38]? = some (.int .u64 (s.hi : Int)) := by
  have := slotC_tail h1 h2
  have h := congrArg (fun l => l[1]?) this
  simpa using h
theorem slotC_delay : (slotC s)[39]? = some (.int .u32 (s.delay : Int)) := by
  have := slotC_tail h1 h2
  have h := congrArg (fun l => l[2]?) this
  simpa using h
end

/-- What is left of it when all is left out that its kind may not say. -/
def kindM (s : Slot) : Slot := if s.last = true then ⟨true, 0, s.box, 0, 0, Z16, Z16, s.lo, s.hi, s.delay⟩ else ⟨s.last, s.next, 0, s.who, s.epoch, s.nonce, s.mac, s.lo, s.hi, s.delay⟩
theorem kindM_ok {s : Slot} (h : s.ok) : (kindM s).ok := by
  unfold kindM
  split
  · exact ⟨by simp, h.box, by simp, by simp, h.lo, h.hi, h.delay, rfl, rfl⟩
  · exact ⟨h.next, by simp, h.who, h.epoch, h.lo, h.hi, h.delay, h.nonce, h.mac⟩

/-- It is right. -/
def rightM (s : Slot) : Prop := s.lo ≤ s.hi ∧ s = kindM s

/-- Its bytes. -/
def encM (s : Slot) : List UInt8 :=
  be 1 (if s.last = true then 1 else 0) ++ be 2 (if s.last = true then s.box else s.next) ++ be 8 s.lo ++ be 8 s.hi ++ be 4 s.delay ++ be 2 s.who ++ be 4 s.epoch ++ s.nonce ++ s.mac ++ List.replicate 3 0
theorem encM_length {s : Slot} (h : s.ok) : (encM s).length = 64 := by
  simp [encM, be_length, h.nonce, h.mac]

/-- What stands in bytes. -/
def decM (b : List UInt8) : Slot where
  last := decide (num (b.take 1) = 1)
  next := if num (b.take 1) = 1 then 0 else num ((b.drop 1).take 2)
  box := if num (b.take 1) = 1 then num ((b.drop 1).take 2) else 0
  lo := num ((b.drop 3).take 8)
  hi := num ((b.drop 11).take 8)
  delay := num ((b.drop 19).take 4)
  who := num ((b.drop 23).take 2)
  epoch := num ((b.drop 25).take 4)
  nonce := (b.drop 29).take 16
  mac := (b.drop 45).take 16
theorem num_cut (b : List UInt8) (i n : Nat) : num ((b.drop i).take n) < 256 ^ n := num_take_lt _ _ _ (Nat.le_refl _)
theorem decM_ok (b : List UInt8) (h : b.length = 64) : (decM b).ok := by
  have h1 := num_cut b 1 2
  refine ⟨?_, ?_, num_cut b 23 2, num_cut b 25 4, num_cut b 3 8, num_cut b 11 8, num_cut b 19 4, ?_, ?_⟩
  · simp only [decM]; split <;> omega
  · simp only [decM]; split <;> omega
  · simp only [decM]; rw [List.length_take, List.length_drop]; omega
  · simp only [decM]; rw [List.length_take, List.length_drop]; omega
theorem decM_kind (b : List UInt8) : (decM b).last = false → (decM b).box = 0 := by
  intro h
  simp only [decM] at h ⊢
  rw [if_neg (by simpa using h)]

/-- A cut of bytes that are one behind the other. -/
theorem cut_app (a b c : List UInt8) (i n : Nat) (h1 : a.length = i) (h2 : b.length = n) : ((a ++ b ++ c).drop i).take n = b := by
  subst h1 h2
  rw [List.append_assoc, List.drop_left, List.take_left]
theorem be_small (w n : Nat) (h : n < 256 ^ w) : num (be w n) = n := num_be w n h

/-- Of a slot that has no field of the other kind: what stands in its bytes is it. -/
theorem dec_enc {s : Slot} (h : s.ok) (hk : s = kindM s) : decM (encM s) = s := by
  obtain ⟨last, next, box, who, epoch, nonce, mac, lo, hi, delay⟩ := s
  obtain ⟨b1, b2, b3, b4, b5, b6, b7, b8, b9⟩ := h
  simp only at b1 b2 b3 b4 b5 b6 b7 b8 b9
  obtain ⟨k, hkk⟩ : ∃ k : Nat, k = (if last = true then 1 else 0) := ⟨_, rfl⟩
  obtain ⟨t, htt⟩ : ∃ t : Nat, t = (if last = true then box else next) := ⟨_, rfl⟩
  have hk1 : k < 256 := by rw [hkk]; split <;> omega
  have ht1 : t < 65536 := by rw [htt]; split <;> omega
  have e0 : (encM ⟨last, next, box, who, epoch, nonce, mac, lo, hi, delay⟩) = be 1 k ++ be 2 t ++ be 8 lo ++ be 8 hi ++ be 4 delay ++ be 2 who ++ be 4 epoch ++ nonce ++ mac ++ List.replicate 3 0 := by
    simp only [encM, ← hkk, ← htt]
  have c0 : num ((encM ⟨last, next, box, who, epoch, nonce, mac, lo, hi, delay⟩).take 1) = k := by
    rw [e0]
    have := cut_app [] (be 1 k) (be 2 t ++ be 8 lo ++ be 8 hi ++ be 4 delay ++ be 2 who ++ be 4 epoch ++ nonce ++ mac ++ List.replicate 3 0) 0 1 rfl (be_length _ _)
    simp only [List.nil_append, List.drop_zero, List.append_assoc] at this ⊢
    rw [this]
    exact be_small _ _ hk1
  have c1 : num (((encM ⟨last, next, box, who, epoch, nonce, mac, lo, hi, delay⟩).drop 1).take 2) = t := by
    rw [e0]
    have := cut_app (be 1 k) (be 2 t) (be 8 lo ++ be 8 hi ++ be 4 delay ++ be 2 who ++ be 4 epoch ++ nonce ++ mac ++ List.replicate 3 0) 1 2 (be_length _ _) (be_length _ _)
    simp only [List.append_assoc] at this ⊢
    rw [this]
    exact be_small _ _ ht1
  have c2 : num (((encM ⟨last, next, box, who, epoch, nonce, mac, lo, hi, delay⟩).drop 3).take 8) = lo := by
    rw [e0]
    have := cut_app (be 1 k ++ be 2 t) (be 8 lo) (be 8 hi ++ be 4 delay ++ be 2 who ++ be 4 epoch ++ nonce ++ mac ++ List.replicate 3 0) 3 8 (by simp [be_length]) (be_length _ _)
    simp only [List.append_assoc] at this ⊢
    rw [this]
    exact be_small _ _ b5
  have c3 : num (((encM ⟨last, next, box, who, epoch, nonce, mac, lo, hi, delay⟩).drop 11).take 8) = hi := by
    rw [e0]
    have := cut_app (be 1 k ++ be 2 t ++ be 8 lo) (be 8 hi) (be 4 delay ++ be 2 who ++ be 4 epoch ++ nonce ++ mac ++ List.replicate 3 0) 11 8 (by simp [be_length]) (be_length _ _)
    simp only [List.append_assoc] at this ⊢
    rw [this]
    exact be_small _ _ b6
  have c4 : num (((encM ⟨last, next, box, who, epoch, nonce, mac, lo, hi, delay⟩).drop 19).take 4) = delay := by
    rw [e0]
    have := cut_app (be 1 k ++ be 2 t ++ be 8 lo ++ be 8 hi) (be 4 delay) (be 2 who ++ be 4 epoch ++ nonce ++ mac ++ List.replicate 3 0) 19 4 (by simp [be_length]) (be_length _ _)
    simp only [List.append_assoc] at this ⊢
    rw [this]
    exact be_small _ _ b7
  have c5 : num (((encM ⟨last, next, box, who, epoch, nonce, mac, lo, hi, delay⟩).drop 23).take 2) = who := by
    rw [e0]
    have := cut_app (be 1 k ++ be 2 t ++ be 8 lo ++ be 8 hi ++ be 4 delay) (be 2 who) (be 4 epoch ++ nonce ++ mac ++ List.replicate 3 0) 23 2 (by simp [be_length]) (be_length _ _)
    simp only [List.append_assoc] at this ⊢
    rw [this]
    exact be_small _ _ b3
  have c6 : num (((encM ⟨last, next, box, who, epoch, nonce, mac, lo, hi, delay⟩).drop 25).take 4) = epoch := by
    rw [e0]
    have := cut_app (be 1 k ++ be 2 t ++ be 8 lo ++ be 8 hi ++ be 4 delay ++ be 2 who) (be 4 epoch) (nonce ++ mac ++ List.replicate 3 0) 25 4 (by simp [be_length]) (be_length _ _)
    simp only [List.append_assoc] at this ⊢
    rw [this]
    exact be_small _ _ b4
  have c7 : ((encM ⟨last, next, box, who, epoch, nonce, mac, lo, hi, delay⟩).drop 29).take 16 = nonce := by
    rw [e0]
    have := cut_app (be 1 k ++ be 2 t ++ be 8 lo ++ be 8 hi ++ be 4 delay ++ be 2 who ++ be 4 epoch) nonce (mac ++ List.replicate 3 0) 29 16 (by simp [be_length]) b8
    simp only [List.append_assoc] at this ⊢
    exact this
  have c8 : ((encM ⟨last, next, box, who, epoch, nonce, mac, lo, hi, delay⟩).drop 45).take 16 = mac := by
    rw [e0]
    have := cut_app (be 1 k ++ be 2 t ++ be 8 lo ++ be 8 hi ++ be 4 delay ++ be 2 who ++ be 4 epoch ++ nonce) mac (List.replicate 3 0) 45 16 (by simp [be_length, b8]) b9
    simp only [List.append_assoc] at this ⊢
    exact this
  simp only [decM, c0, c1, c2, c3, c4, c5, c6, c7, c8, hkk, htt]
  cases last
  · simp [kindM] at hk
    simp [hk]
  · simp [kindM] at hk
    simp [hk]

theorem take_split (b : List UInt8) (i j k : Nat) (h : k = i + j) : b.take k = b.take i ++ (b.drop i).take j := by
  subst h
  exact List.take_add
/-- Bytes of which the first says the kind and the last three are noughts are those of what stands in them. -/
theorem enc_dec {b : List UInt8} (hb : b.length = 64) (h0 : num (b.take 1) ≤ 1) (h3 : b.drop 61 = List.replicate 3 0) : encM (decM b) = b := by
  have n0 : be 1 (num (b.take 1)) = b.take 1 := be_numN _ 1 (by rw [List.length_take]; omega)
  have cut : ∀ i n, i + n ≤ 64 → be n (num ((b.drop i).take n)) = (b.drop i).take n := fun i n h => be_numN _ n (by rw [List.length_take, List.length_drop]; omega)
  have e1 : (if (decM b).last = true then 1 else 0) = num (b.take 1) := by
    simp only [decM, decide_eq_true_eq]
    split <;> omega
  have e2 : (if (decM b).last = true then (decM b).box else (decM b).next) = num ((b.drop 1).take 2) := by
    simp only [decM, decide_eq_true_eq]
    split <;> rfl
  unfold encM
  rw [e1, e2, n0, cut 1 2 (by omega)]
  have f3 : be 8 (decM b).lo = (b.drop 3).take 8 := cut 3 8 (by omega)
  have f4 : be 8 (decM b).hi = (b.drop 11).take 8 := cut 11 8 (by omega)
  have f5 : be 4 (decM b).delay = (b.drop 19).take 4 := cut 19 4 (by omega)
  have f6 : be 2 (decM b).who = (b.drop 23).take 2 := cut 23 2 (by omega)
  have f7 : be 4 (decM b).epoch = (b.drop 25).take 4 := cut 25 4 (by omega)
  rw [f3, f4, f5, f6, f7]
  show b.take 1 ++ (b.drop 1).take 2 ++ (b.drop 3).take 8 ++ (b.drop 11).take 8 ++ (b.drop 19).take 4 ++ (b.drop 23).take 2 ++ (b.drop 25).take 4 ++ (b.drop 29).take 16 ++ (b.drop 45).take 16 ++ List.replicate 3 0 = b
  rw [← take_split b 1 2 3 rfl, ← take_split b 3 8 11 rfl, ← take_split b 11 8 19 rfl, ← take_split b 19 4 23 rfl, ← take_split b 23 2 25 rfl, ← take_split b 25 4 29 rfl, ← take_split b 29 16 45 rfl, ← take_split b 45 16 61 rfl, ← h3]
  exact List.take_append_drop _ _
/-- .. and no others are a slot's. -/
theorem enc_kind {s : Slot} (h : s.ok) : num ((encM s).take 1) = (if s.last = true then 1 else 0) ∧ (encM s).drop 61 = List.replicate 3 0 := by
  constructor
  · have e : (encM s).take 1 = be 1 (if s.last = true then 1 else 0) := by
      unfold encM
      simp only [List.append_assoc]
      exact List.take_left' (be_length _ _)
    rw [e, be_small]
    split <;> decide
  · unfold encM
    exact List.drop_left' (by simp [be_length, h.nonce, h.mac])

/-- What Decode answers: the slot, if its bytes are these. -/
def goodB (b : List UInt8) : Prop := rightM (decM b) ∧ encM (decM b) = b

structure Pkt where
  who : Nat
  epoch : Nat
  nonce : List UInt8
  mac : List UInt8
  head : List UInt8
  body : List UInt8
theorem Pkt.ext' {s t : Pkt} (h3 : s.who = t.who) (h4 : s.epoch = t.epoch) (h5 : s.nonce = t.nonce) (h6 : s.mac = t.mac) (h7 : s.head = t.head) (h8 : s.body = t.body) : s = t := by
  cases s; cases t; simp_all
structure Pkt.ok (p : Pkt) : Prop where
  who : p.who < 65536
  epoch : p.epoch < 4294967296
  nonce : p.nonce.length = 16
  mac : p.mac.length = 16
  head : p.head.length = 320
  body : p.body.length = 256
def zeros (n : Nat) : List UInt8 := List.replicate n 0
theorem zeros_length (n : Nat) : (zeros n).length = n := List.length_replicate
def pkt0 : Pkt := ⟨0, 0, Z16, Z16, zeros 320, zeros 256⟩
theorem pkt0_ok : pkt0.ok := ⟨by decide, by decide, rfl, rfl, zeros_length _, zeros_length _⟩
def pktC (p : Pkt) : List Value := .int .u16 (p.who : Int) :: .int .u32 (p.epoch : Int) :: (cellsB p.nonce ++ (cellsB p.mac ++ (cellsB p.head ++ cellsB p.body)))
def pktV (p : Pkt) : Value := .agg (pktC p).toArray
theorem pktC_length {p : Pkt} (h : p.ok) : (pktC p).length = 610 := by
  simp [pktC, cellsB_length, h.nonce, h.mac, h.head, h.body]
theorem pktC_one (p : Pkt) : ∀ v ∈ pktC p, v.oneCell' = true := by
  intro v hv
  simp only [pktC, List.mem_cons, List.mem_append] at hv
  rcases hv with rfl | rfl | hv | hv | hv | hv
  all_goals first | rfl | exact cellsB_one _ v hv
/-- A cut of cells. -/
theorem cut_cells (a b c : List Value) (i n : Nat) (h1 : a.length = i) (h2 : b.length = n) : ((a ++ (b ++ c)).drop i).take n = b := by
  subst h1 h2
  rw [List.drop_left, List.take_left]
section
variable {p : Pkt} (h : p.ok)
include h
theorem pktC_nonce : ((pktC p).drop 2).take 16 = cellsB p.nonce := cut_cells [.int .u16 (p.who : Int), .int .u32 (p.epoch : Int)] _ _ 2 16 rfl (by rw [cellsB_length, h.nonce])
theorem pktC_mac : ((pktC p).drop 18).take 16 = cellsB p.mac := by
  have := cut_cells ([.int .u16 (p.who : Int), .int .u32 (p.epoch : Int)] ++ cellsB p.nonce) (cellsB p.mac) (cellsB p.head ++ cellsB p.body) 18 16 (by simp [cellsB_length, h.nonce]) (by rw [cellsB_length, h.mac])
  rwa [List.append_assoc] at this
theorem pktC_head : ((pktC p).drop 34).take 320 = cellsB p.head := by
  have := cut_cells ([.int .u16 (p.who : Int), .int .u32 (p.epoch : Int)] ++ (cellsB p.nonce ++ cellsB p.mac)) (cellsB p.head) (cellsB p.body) 34 320 (by simp [cellsB_length, h.nonce, h.mac]) (by rw [cellsB_length, h.head])
  simpa [List.append_assoc, pktC] using this
theorem pktC_body : ((pktC p).drop 354).take 256 = cellsB p.body := by
  have := cut_cells ([.int .u16 (p.who : Int), .int .u32 (p.epoch : Int)] ++ (cellsB p.nonce ++ (cellsB p.mac ++ cellsB p.head))) (cellsB p.body) [] 354 256 (by simp [cellsB_length, h.nonce, h.mac, h.head]) (by rw [cellsB_length, h.body])
  simpa [List.append_assoc, pktC] using this
end
/-- A packet's bytes. -/
def packM (p : Pkt) : List UInt8 := be 2 p.who ++ be 4 p.epoch ++ p.nonce ++ p.mac ++ p.head ++ p.body
theorem packM_length {p : Pkt} (h : p.ok) : (packM p).length = 614 := by simp [packM, be_length, h.nonce, h.mac, h.head, h.body]
/-- The packet of which these are the bytes. -/
def unpackM (b : List UInt8) : Pkt := ⟨num (b.take 2), num ((b.drop 2).take 4), (b.drop 6).take 16, (b.drop 22).take 16, (b.drop 38).take 320, b.drop 358⟩
theorem unpackM_ok {b : List UInt8} (h : b.length = 614) : (unpackM b).ok := by
  refine ⟨num_take_lt b 2 2 (Nat.le_refl _), num_cut b 2 4, ?_, ?_, ?_, ?_⟩ <;> simp [unpackM, h]
theorem unpack_pack {p : Pkt} (h : p.ok) : unpackM (packM p) = p := by
  obtain ⟨who, epoch, nonce, mac, head, body⟩ := p
  obtain ⟨b3, b4, b8, b9, b10, b11⟩ := h
  simp only at b3 b4 b8 b9 b10 b11
  have e0 : packM ⟨who, epoch, nonce, mac, head, body⟩ = be 2 who ++ be 4 epoch ++ nonce ++ mac ++ head ++ body := rfl
  have c0 : num ((packM ⟨who, epoch, nonce, mac, head, body⟩).take 2) = who := by
    rw [e0]
    have := cut_app [] (be 2 who) (be 4 epoch ++ nonce ++ mac ++ head ++ body) 0 2 rfl (be_length _ _)
    simp only [List.nil_append, List.drop_zero, List.append_assoc] at this ⊢
    rw [this]
    exact be_small _ _ b3
  have c1 : num (((packM ⟨who, epoch, nonce, mac, head, body⟩).drop 2).take 4) = epoch := by
    rw [e0]
    have := cut_app (be 2 who) (be 4 epoch) (nonce ++ mac ++ head ++ body) 2 4 (be_length _ _) (be_length _ _)
    simp only [List.append_assoc] at this ⊢
    rw [this]
    exact be_small _ _ b4
  have c2 : ((packM ⟨who, epoch, nonce, mac, head, body⟩).drop 6).take 16 = nonce := by
    rw [e0]
    have := cut_app (be 2 who ++ be 4 epoch) nonce (mac ++ head ++ body) 6 16 (by simp [be_length]) b8
    simp only [List.append_assoc] at this ⊢
    exact this
  have c3 : ((packM ⟨who, epoch, nonce, mac, head, body⟩).drop 22).take 16 = mac := by
    rw [e0]
    have := cut_app (be 2 who ++ be 4 epoch ++ nonce) mac (head ++ body) 22 16 (by simp [be_length, b8]) b9
    simp only [List.append_assoc] at this ⊢
    exact this
  have c4 : ((packM ⟨who, epoch, nonce, mac, head, body⟩).drop 38).take 320 = head := by
    rw [e0]
    have := cut_app (be 2 who ++ be 4 epoch ++ nonce ++ mac) head body 38 320 (by simp [be_length, b8, b9]) b10
    simp only [List.append_assoc] at this ⊢
    exact this
  have c5 : (packM ⟨who, epoch, nonce, mac, head, body⟩).drop 358 = body := by
    rw [e0]
    exact List.drop_left' (by simp [be_length, b8, b9, b10])
  simp only [unpackM, c0, c1, c2, c3, c4, c5]
theorem pack_unpack {b : List UInt8} (h : b.length = 614) : packM (unpackM b) = b := by
  unfold packM unpackM
  simp only
  rw [be_numN (b.take 2) 2 (by rw [List.length_take]; omega), be_numN ((b.drop 2).take 4) 4 (by rw [List.length_take, List.length_drop]; omega)]
  rw [← take_split b 2 4 6 rfl, ← take_split b 6 16 22 rfl, ← take_split b 22 16 38 rfl, ← take_split b 38 320 358 rfl]
  exact List.take_append_drop _ _
end Go.Proofs.Ytedodbejbkdplaa
