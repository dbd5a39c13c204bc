/-
  Packets in layers, over lists: keys of keys, streams, MACs, what is peeled, what is built, and that peeling undoes building.
-/
import Derived.Test.YtoiiiflnnhkjbaaGreatDoorOSlC
import Derived.Test.YtoiiiflnnhkjbaaGreatDoorOHmB
import Derived.Test.YtoiiiflnnhkjbaaGreatDoorOChB
namespace Go.Proofs.YtoiiiflnnhkjbaaGreatDoor
set_option linter.unusedVariables false
set_option linter.unusedSimpArgs false
open Go.RowKit

def headT : List UInt8 := [104, 101, 97, 100]
def bodyT : List UInt8 := [98, 111, 100, 121]
def macT : List UInt8 := [109, 97, 99]
def tagT : List UInt8 := [116, 97, 103]
/-- A key of its own for each thing. -/
def madeL (key lab : List UInt8) (ep : Nat) (nonce : List UInt8) : List UInt8 := deriveL key lab [be 4 ep, nonce]
theorem madeL_length (key lab : List UInt8) (ep : Nat) (nonce : List UInt8) : (madeL key lab ep nonce).length = 32 := deriveL_length _ _ _
def headS (key : List UInt8) (ep : Nat) (nonce : List UInt8) : List UInt8 := streamL (madeL key headT ep nonce) (zeros 12) 384
def bodyS (key : List UInt8) (ep : Nat) (nonce : List UInt8) : List UInt8 := streamL (madeL key bodyT ep nonce) (zeros 12) 256
theorem headS_length (key : List UInt8) (ep : Nat) (nonce : List UInt8) : (headS key ep nonce).length = 384 := streamL_length _ _ _
theorem bodyS_length (key : List UInt8) (ep : Nat) (nonce : List UInt8) : (bodyS key ep nonce).length = 256 := streamL_length _ _ _
/-- The MAC of a packet. -/
def macO (key : List UInt8) (p : Pkt) : List UInt8 := (macL (madeL key macT p.epoch p.nonce) [be 2 p.who, be 4 p.epoch, p.nonce, p.head, p.body].flatten).take 16
theorem macO_length (key : List UInt8) (p : Pkt) : (macO key p).length = 16 := by rw [macO, List.length_take, macL_length]; rfl
def tagO (key : List UInt8) (ep : Nat) (nonce : List UInt8) : List UInt8 := (madeL key tagT ep nonce).take 16
theorem tagO_length (key : List UInt8) (ep : Nat) (nonce : List UInt8) : (tagO key ep nonce).length = 16 := by rw [tagO, List.length_take, madeL_length]; rfl
theorem macO_mac (key : List UInt8) (p : Pkt) (m : List UInt8) : macO key { p with mac := m } = macO key p := rfl

/-- What a hop sees of a Head. -/
def shownL (key : List UInt8) (p : Pkt) : List UInt8 := xorB (p.head ++ zeros 64) (headS key p.epoch p.nonce)
theorem shownL_length (key : List UInt8) {p : Pkt} (h : p.head.length = 320) : (shownL key p).length = 384 := by
  rw [shownL, xorB_length, List.length_append, h, zeros_length, headS_length]; rfl
def goodP (key : List UInt8) (p : Pkt) : Bool := macO key p == p.mac
def peelS (key : List UInt8) (p : Pkt) : Slot := if goodP key p = true then ansM ((shownL key p).take 64) else slot0
def peelE (key : List UInt8) (p : Pkt) : Int := if goodP key p = true then errD ((shownL key p).take 64) else 4
def nextP (key : List UInt8) (p : Pkt) (s : Slot) : Pkt := ⟨s.who, s.epoch, s.nonce, s.mac, (shownL key p).drop 64, xorB p.body (bodyS key p.epoch p.nonce)⟩
def peelP (key : List UInt8) (p : Pkt) : Pkt := if goodP key p = true then (if okB ((shownL key p).take 64) = true then nextP key p (ansM ((shownL key p).take 64)) else pkt0) else pkt0
theorem peelS_ok (key : List UInt8) {p : Pkt} (h : p.ok) : (peelS key p).ok := by
  unfold peelS
  split
  · exact ansM_ok (by rw [List.length_take, shownL_length key h.head]; rfl)
  · exact slot0_ok
theorem nextP_ok (key : List UInt8) {p : Pkt} (h : p.ok) {s : Slot} (hs : s.ok) : (nextP key p s).ok := by
  refine ⟨hs.who, hs.epoch, hs.nonce, hs.mac, ?_, ?_⟩
  · simp only [nextP]; rw [List.length_drop, shownL_length key h.head]
  · simp only [nextP]; rw [xorB_length, h.body, bodyS_length]; rfl
theorem peelP_ok (key : List UInt8) {p : Pkt} (h : p.ok) : (peelP key p).ok := by
  unfold peelP
  split
  · split
    · exact nextP_ok key h (ansM_ok (by rw [List.length_take, shownL_length key h.head]; rfl))
    · exact pkt0_ok
  · exact pkt0_ok

structure HopL where
  addr : Nat
  who : Nat
  key : List UInt8
  epoch : Nat
  nonce : List UInt8
  lo : Nat
  hi : Nat
  delay : Nat
structure HopL.ok (h : HopL) : Prop where
  addr : h.addr < 65536
  who : h.who < 65536
  key : h.key.length = 32
  epoch : h.epoch < 4294967296
  nonce : h.nonce.length = 16
  lo : h.lo < 18446744073709551616
  hi : h.hi < 18446744073709551616
  delay : h.delay < 4294967296
def Z32 : List UInt8 := List.replicate 32 0
def hop0 : HopL := ⟨0, 0, Z32, 0, Z16, 0, 0, 0⟩
theorem hop0_ok : hop0.ok := ⟨by decide, by decide, rfl, by decide, rfl, by decide, by decide, by decide⟩
def hopC (h : HopL) : List Value := .int .u16 (h.addr : Int) :: .int .u16 (h.who : Int) :: (cellsB h.key ++ (.int .u32 (h.epoch : Int) :: (cellsB h.nonce ++ [.int .u64 (h.lo : Int), .int .u64 (h.hi : Int), .int .u32 (h.delay : Int)])))
theorem hopC_length {h : HopL} (k : h.ok) : (hopC h).length = 54 := by simp [hopC, cellsB_length, k.key, k.nonce]
theorem hopC_one (h : HopL) : ∀ v ∈ hopC h, v.oneCell' = true := by
  intro v hv
  simp only [hopC, List.mem_cons, List.mem_append, List.not_mem_nil, or_false] at hv
  rcases hv with rfl | rfl | hv | rfl | hv | rfl | rfl | rfl
  all_goals first | rfl | exact cellsB_one _ v hv
section
variable {h : HopL} (k : h.ok)
include k
theorem hopC_key : ((hopC h).drop 2).take 32 = cellsB h.key := cut_cells [.int .u16 (h.addr : Int), .int .u16 (h.who : Int)] _ _ 2 32 rfl (by rw [cellsB_length, k.key])
theorem hopC_nonce : ((hopC h).drop 35).take 16 = cellsB h.nonce := by
  have := cut_cells ([.int .u16 (h.addr : Int), .int .u16 (h.who : Int)] ++ (cellsB h.key ++ [.int .u32 (h.epoch : Int)])) (cellsB h.nonce) [.int .u64 (h.lo : Int), .int .u64 (h.hi : Int), .int .u32 (h.delay : Int)] 35 16 (by simp [cellsB_length, k.key]) (by rw [cellsB_length, k.nonce])
  simpa [hopC, List.append_assoc] using this
theorem hopC_epoch : (hopC h)[34]? = some (.int .u32 (h.epoch : Int)) := by
  have : hopC h = ([.int .u16 (h.addr : Int), .int .u16 (h.who : Int)] ++ cellsB h.key) ++ (.int .u32 (h.epoch : Int) :: (cellsB h.nonce ++ [.int .u64 (h.lo : Int), .int .u64 (h.hi : Int), .int .u32 (h.delay : Int)])) := by simp [hopC, List.append_assoc]
  rw [this, List.getElem?_append_right (by simp [cellsB_length, k.key])]
  simp [cellsB_length, k.key]
theorem hopC_tail : (hopC h).drop 51 = [.int .u64 (h.lo : Int), .int .u64 (h.hi : Int), .int .u32 (h.delay : Int)] := by
  have : hopC h = ([.int .u16 (h.addr : Int), .int .u16 (h.who : Int)] ++ (cellsB h.key ++ (.int .u32 (h.epoch : Int) :: cellsB h.nonce))) ++ [.int .u64 (h.lo : Int), .int .u64 (h.hi : Int), .int .u32 (h.delay : Int)] := by simp [hopC, List.append_assoc]
  rw [this]
  exact List.drop_left' (by simp [cellsB_length, k.key, k.nonce])
theorem hopC_lo : (hopC h)[51]? = some (.int .u64 (h.lo : Int)) := by have h := congrArg (fun l => l[0]?) (hopC_tail k); simpa using h
theorem hopC_hi : (hopC h)[52]? = some (.int .u64 (h.hi : Int)) := by have h := congrArg (fun l => l[1]?) (hopC_tail k); simpa using h
theorem hopC_delay : (hopC h)[53]? = some (.int .u32 (h.delay : Int)) := by have h := congrArg (fun l => l[2]?) (hopC_tail k); simpa using h
end

def hopS (h : HopL) : List UInt8 := headS h.key h.epoch h.nonce
theorem hopS_length (h : HopL) : (hopS h).length = 384 := headS_length _ _ _
/-- What hop i makes of the Head that the hops ahead of it leave of noughts. -/
def stepLeft (i : Nat) (h : HopL) (hd : List UInt8) : List UInt8 :=
  ((hd ++ zeros 64).take (384 - 64 * (i + 1)) ++ xorB ((hd ++ zeros 64).drop (384 - 64 * (i + 1))) ((hopS h).drop (384 - 64 * (i + 1)))).drop 64
theorem stepLeft_length (i : Nat) (h : HopL) {hd : List UInt8} (hl : hd.length = 320) : (stepLeft i h hd).length = 320 := by
  simp [stepLeft, xorB_length, hopS_length, hl, zeros_length]
def leftH (hops : List HopL) : Nat → List UInt8
  | 0 => zeros 320
  | k + 1 => stepLeft k (hops.getD k hop0) (leftH hops k)
theorem leftH_length (hops : List HopL) (k : Nat) : (leftH hops k).length = 320 := by
  induction k with
  | zero => exact zeros_length _
  | succ k ih => exact stepLeft_length _ _ ih

/-- The packet that a hop peels to this slot and the inner packet. -/
def wrapP (h : HopL) (s : Slot) (inner : Pkt) : Pkt := ⟨h.who, h.epoch, h.nonce, Z16, (xorB (outM s ++ inner.head) (hopS h)).take 320, xorB inner.body (bodyS h.key h.epoch h.nonce)⟩
def wrapL (h : HopL) (s : Slot) (inner : Pkt) : Pkt := { wrapP h s inner with mac := macO h.key (wrapP h s inner) }
theorem outM_len {s : Slot} (h : s.ok) : (outM s).length = 64 := outM_length h
theorem wrapL_ok {h : HopL} (k : h.ok) {s : Slot} (hs : s.ok) {p : Pkt} (hp : p.ok) : (wrapL h s p).ok := by
  refine ⟨k.who, k.epoch, k.nonce, macO_length _ _, ?_, ?_⟩
  · simp [wrapL, wrapP, xorB_length, outM_len hs, hp.head, hopS_length]
  · simp [wrapL, wrapP, xorB_length, hp.body, bodyS_length]
theorem wrapP_ok {h : HopL} (k : h.ok) {s : Slot} (hs : s.ok) {p : Pkt} (hp : p.ok) : (wrapP h s p).ok := by
  refine ⟨k.who, k.epoch, k.nonce, rfl, ?_, ?_⟩
  · simp [wrapP, xorB_length, outM_len hs, hp.head, hopS_length]
  · simp [wrapP, xorB_length, hp.body, bodyS_length]
def inSlot (h : HopL) (s : Slot) : Slot := { s with lo := h.lo, hi := h.hi, delay := h.delay }
def ofHop (h : HopL) (m : List UInt8) : Slot := ⟨false, h.addr, 0, h.who, h.epoch, h.nonce, m, 0, 0, 0⟩
def stepB (h : HopL) (x : Pkt × Slot) : Pkt × Slot := (wrapL h (inSlot h x.2) x.1, ofHop h (wrapL h (inSlot h x.2) x.1).mac)
def initB (hd body : List UInt8) (box : Nat) : Pkt × Slot := (⟨0, 0, Z16, Z16, hd, body⟩, { slot0 with last := true, box := box })
/-- The packet and the slot that wait when the hops behind are wrapped. -/
def bldR (x : Pkt × Slot) : List HopL → Pkt × Slot
  | [] => x
  | h :: t => stepB h (bldR x t)
theorem inSlot_ok {h : HopL} (k : h.ok) {s : Slot} (hs : s.ok) : (inSlot h s).ok := ⟨hs.next, hs.box, hs.who, hs.epoch, k.lo, k.hi, k.delay, hs.nonce, hs.mac⟩
theorem ofHop_ok {h : HopL} (k : h.ok) {m : List UInt8} (hm : m.length = 16) : (ofHop h m).ok := ⟨k.addr, (by show (0 : Nat) < _; omega), k.who, k.epoch, (by show (0 : Nat) < _; omega), (by show (0 : Nat) < _; omega), (by show (0 : Nat) < _; omega), k.nonce, hm⟩
theorem bldR_ok {x : Pkt × Slot} (h1 : x.1.ok) (h2 : x.2.ok) : ∀ {l : List HopL}, (∀ h ∈ l, h.ok) → (bldR x l).1.ok ∧ (bldR x l).2.ok
  | [], _ => ⟨h1, h2⟩
  | h :: t, hl => by
    have ih := bldR_ok h1 h2 (l := t) (fun x hx => hl x (List.mem_cons_of_mem _ hx))
    have k := hl h (List.mem_cons_self ..)
    have hw := wrapL_ok k (inSlot_ok k ih.2) ih.1
    exact ⟨hw, ofHop_ok k hw.mac⟩
theorem initB_ok {hd body : List UInt8} {box : Nat} (h1 : hd.length = 320) (h2 : body.length = 256) (h3 : box < 65536) : (initB hd body box).1.ok ∧ (initB hd body box).2.ok :=
  ⟨⟨(by show (0 : Nat) < _; omega), (by show (0 : Nat) < _; omega), rfl, rfl, h1, h2⟩, ⟨(by show (0 : Nat) < _; omega), h3, (by show (0 : Nat) < _; omega), (by show (0 : Nat) < _; omega), (by show (0 : Nat) < _; omega), (by show (0 : Nat) < _; omega), (by show (0 : Nat) < _; omega), rfl, rfl⟩⟩
def rightH (hops : List HopL) : Bool := decide (1 ≤ hops.length ∧ hops.length ≤ 5) && hops.all fun h => decide (h.lo ≤ h.hi)
def buildP (hops : List HopL) (box : Nat) (body : List UInt8) : Pkt := if rightH hops = true then (bldR (initB (leftH hops hops.length) body box) hops).1 else pkt0
def buildE (hops : List HopL) : Int := if rightH hops = true then 0 else 1
theorem buildP_ok {hops : List HopL} (hk : ∀ h ∈ hops, h.ok) {box : Nat} {body : List UInt8} (h2 : body.length = 256) (h3 : box < 65536) : (buildP hops box body).ok := by
  unfold buildP
  split
  · exact (bldR_ok (initB_ok (leftH_length _ _) h2 h3).1 (initB_ok (leftH_length _ _) h2 h3).2 hk).1
  · exact pkt0_ok

/-! ### Peeling undoes building -/
theorem xorB_self (a b : List UInt8) (h : a.length ≤ b.length) : xorB (xorB a b) b = a := by
  induction a generalizing b with
  | nil => rfl
  | cons x a ih =>
    cases b with
    | nil => simp at h
    | cons y b =>
      simp only [xorB, List.zipWith_cons_cons] at ih ⊢
      rw [ih b (by simpa using h)]
      congr 1
      rw [UInt8.xor_assoc, UInt8.xor_self, UInt8.xor_zero]
theorem xorB_zeros (n : Nat) (b : List UInt8) (h : b.length = n) : xorB (zeros n) b = b := by
  subst h
  induction b with
  | nil => rfl
  | cons y b ih =>
    simp only [zeros, xorB, List.length_cons, List.replicate_succ, List.zipWith_cons_cons, UInt8.zero_xor] at ih ⊢
    rw [ih]
theorem xorB_drop (a b : List UInt8) (n : Nat) : (xorB a b).drop n = xorB (a.drop n) (b.drop n) := by simp [xorB, List.drop_zipWith]
theorem xorB_take (a b : List UInt8) (n : Nat) : (xorB a b).take n = xorB (a.take n) (b.take n) := by simp [xorB, List.take_zipWith]
theorem xorB_append (a b c d : List UInt8) (h : a.length = c.length) : xorB (a ++ b) (c ++ d) = xorB a c ++ xorB b d := by simp [xorB, List.zipWith_append h]

/-- The end of the Head of hop i's packet is what the hops ahead of it make of noughts. -/
def TailOk (hops : List HopL) (i : Nat) (hd : List UInt8) : Prop := hd.drop (320 - 64 * i) = (leftH hops i).drop (320 - 64 * i)

theorem left_drop (hops : List HopL) (i : Nat) (hi : i ≤ 4) : (leftH hops (i + 1)).drop (256 - 64 * i) = xorB ((leftH hops i).drop (320 - 64 * i) ++ zeros 64) ((hopS (hops.getD i hop0)).drop (320 - 64 * i)) := by
  have hl := leftH_length hops i
  show (stepLeft i _ _).drop _ = _
  rw [stepLeft, List.drop_drop, show 64 + (256 - 64 * i) = 320 - 64 * i by omega, show 384 - 64 * (i + 1) = 320 - 64 * i by omega]
  rw [List.drop_left' (by rw [List.length_take, List.length_append, hl, zeros_length]; omega), List.drop_append_of_le_length (by rw [hl]; omega)]

/-- What is hidden ends, shown again, in what it was. -/
theorem hidden_end {enc hd : List UInt8} (hops : List HopL) (i : Nat) (hi : i ≤ 4) (he : enc.length = 64) (hh : hd.length = 320) (ht : TailOk hops (i + 1) hd) :
    (enc ++ hd).drop 320 = (hopS (hops.getD i hop0)).drop 320 ∧ TailOk hops i ((xorB (enc ++ hd) (hopS (hops.getD i hop0))).take 320) := by
  have hl := leftH_length hops i
  have hS := hopS_length (hops.getD i hop0)
  have hx : hd.drop (256 - 64 * i) = xorB ((leftH hops i).drop (320 - 64 * i) ++ zeros 64) ((hopS (hops.getD i hop0)).drop (320 - 64 * i)) := by
    have h1 := ht
    unfold TailOk at h1
    rw [show 320 - 64 * (i + 1) = 256 - 64 * i by omega] at h1
    rw [h1, left_drop hops i hi]
  show _ ∧ ((xorB (enc ++ hd) _).take 320).drop (320 - 64 * i) = (leftH hops i).drop (320 - 64 * i)
  generalize hopS (hops.getD i hop0) = S at *
  generalize leftH hops i = L at *
  have ha : (enc ++ hd).drop (320 - 64 * i) = hd.drop (256 - 64 * i) := by
    rw [List.drop_append, he, List.drop_eq_nil_of_le (by omega), List.nil_append]
    congr 1
    omega
  constructor
  · have h1 : (enc ++ hd).drop 320 = ((enc ++ hd).drop (320 - 64 * i)).drop (64 * i) := by rw [List.drop_drop]; congr 1; omega
    rw [h1, ha, hx, xorB_drop, List.drop_left' (by rw [List.length_drop, hl]; omega), List.drop_drop, show 320 - 64 * i + 64 * i = 320 by omega]
    exact xorB_zeros 64 _ (by rw [List.length_drop, hS])
  · rw [List.drop_take, xorB_drop, ha, hx, xorB_self _ _ (by simp [hl, hS, zeros_length]; omega)]
    have hq : (L.drop (320 - 64 * i)).length = 320 - (320 - 64 * i) := by rw [List.length_drop, hl]
    exact List.take_left' hq
theorem bld_tail (hops : List HopL) (hn : hops.length ≤ 5) (hk : ∀ h ∈ hops, h.ok) (body : List UInt8) (hb : body.length = 256) (box : Nat) (hx : box < 65536) :
    ∀ (t : List HopL) (i : Nat), i + t.length = hops.length → hops.drop i = t → TailOk hops i (bldR (initB (leftH hops hops.length) body box) t).1.head
  | [], i, hi, _ => by
    have : i = hops.length := by simpa using hi
    subst this
    rfl
  | h :: t, i, hi, hd => by
    have hlt : i < hops.length := by simp at hi; omega
    have e : hops.drop (i + 1) = t := by rw [← List.tail_drop, hd]; rfl
    have eh : hops.getD i hop0 = h := by
      rw [List.getD_eq_getElem?_getD, ← List.head?_drop, hd]; rfl
    have ih := bld_tail hops hn hk body hb box hx t (i + 1) (by simp at hi; omega) e
    have hok := bldR_ok (initB_ok (leftH_length hops hops.length) hb hx).1 (initB_ok (leftH_length hops hops.length) hb hx).2 (l := t) (fun x hx' => hk x (List.mem_of_mem_drop (i := i + 1) (e ▸ hx')))
    have hh : h.ok := hk h (List.mem_of_mem_drop (i := i) (hd ▸ List.mem_cons_self ..))
    have := (hidden_end hops i (by omega) (outM_len (inSlot_ok hh hok.2)) hok.1.head ih).2
    rw [eh] at this
    exact this

theorem okB_enc {s : Slot} (h : s.ok) (hr : rightM s) : okB (encM s) = true ∧ decM (encM s) = s := by
  have e := dec_enc h hr.2
  refine ⟨?_, e⟩
  unfold okB
  rw [e, rightB_iff.2 hr]
  simp
theorem outM_right {s : Slot} (hr : rightM s) : outM s = encM s := by
  unfold outM
  rw [if_pos (rightB_iff.2 hr)]

/-- One layer: who has the key sees the slot, and the inner packet. -/
theorem peel_wrap (hops : List HopL) (i : Nat) (hi : i ≤ 4) {h : HopL} (hk : h.ok) (eh : hops.getD i hop0 = h) {s : Slot} (hs : s.ok) (hr : rightM s) {p : Pkt} (hp : p.ok)
    (he : s.who = p.who ∧ s.epoch = p.epoch ∧ s.nonce = p.nonce ∧ s.mac = p.mac) (ht : TailOk hops (i + 1) p.head) :
    peelE h.key (wrapL h s p) = 0 ∧ peelS h.key (wrapL h s p) = s ∧ peelP h.key (wrapL h s p) = p := by
  have hg : goodP h.key (wrapL h s p) = true := by
    unfold goodP
    have : macO h.key (wrapL h s p) = (wrapL h s p).mac := rfl
    rw [this]
    simp
  obtain ⟨hd, _⟩ := hidden_end hops i hi (outM_len hs) hp.head ht
  rw [eh] at hd
  have hA : (outM s ++ p.head).length = 384 := by rw [List.length_append, outM_len hs, hp.head]
  have hS := hopS_length h
  have hsh : shownL h.key (wrapL h s p) = outM s ++ p.head := by
    show xorB ((xorB (outM s ++ p.head) (hopS h)).take 320 ++ zeros 64) (hopS h) = _
    have h1 : hopS h = (hopS h).take 320 ++ (hopS h).drop 320 := (List.take_append_drop _ _).symm
    rw [xorB_take]
    conv => lhs; rw [show xorB (xorB ((outM s ++ p.head).take 320) ((hopS h).take 320) ++ zeros 64) (hopS h) = xorB (xorB ((outM s ++ p.head).take 320) ((hopS h).take 320) ++ zeros 64) ((hopS h).take 320 ++ (hopS h).drop 320) by rw [← h1]]
    rw [xorB_append _ _ _ _ (by rw [xorB_length, List.length_take, List.length_take, hA, hS]; rfl), xorB_self _ _ (by rw [List.length_take, List.length_take, hA, hS]; exact Nat.le_refl _), xorB_zeros 64 _ (by rw [List.length_drop, hS]), ← hd, List.take_append_drop]
  have h64 : (shownL h.key (wrapL h s p)).take 64 = encM s := by rw [hsh, List.take_left' (outM_len hs), outM_right hr]
  obtain ⟨o1, o2⟩ := okB_enc hs hr
  have hans : ansM (encM s) = s := by unfold ansM; rw [if_pos o1, o2]
  refine ⟨?_, ?_, ?_⟩
  · unfold peelE; rw [if_pos hg, h64, errD, if_pos o1]
  · unfold peelS; rw [if_pos hg, h64, hans]
  · unfold peelP
    rw [if_pos hg, h64, if_pos o1, hans]
    apply Pkt.ext'
    · exact he.1
    · exact he.2.1
    · exact he.2.2.1
    · exact he.2.2.2
    · show (shownL h.key (wrapL h s p)).drop 64 = _
      rw [hsh]
      exact List.drop_left' (outM_len hs)
    · show xorB (xorB p.body (bodyS h.key h.epoch h.nonce)) (bodyS h.key h.epoch h.nonce) = _
      exact xorB_self _ _ (by rw [hp.body, bodyS_length]; exact Nat.le_refl _)

/-- The packet that hop i of these peels. -/
def pktAt (hops : List HopL) (box : Nat) (body : List UInt8) (i : Nat) : Pkt := (bldR (initB (leftH hops hops.length) body box) (hops.drop i)).1
/-- The slot that it sees. -/
def slotAt (hops : List HopL) (box : Nat) (body : List UInt8) (i : Nat) : Slot := inSlot (hops.getD i hop0) (bldR (initB (leftH hops hops.length) body box) (hops.drop (i + 1))).2
theorem getD_drop {hops : List HopL} {i : Nat} (hi : i < hops.length) : hops.drop i = hops.getD i hop0 :: hops.drop (i + 1) := by
  rw [List.drop_eq_getElem_cons hi, List.getD_eq_getElem?_getD, List.getElem?_eq_getElem hi]; rfl
theorem bld_waits (x : Pkt × Slot) (hx : x.2.who = x.1.who ∧ x.2.epoch = x.1.epoch ∧ x.2.nonce = x.1.nonce ∧ x.2.mac = x.1.mac) : ∀ l : List HopL, (bldR x l).2.who = (bldR x l).1.who ∧ (bldR x l).2.epoch = (bldR x l).1.epoch ∧ (bldR x l).2.nonce = (bldR x l).1.nonce ∧ (bldR x l).2.mac = (bldR x l).1.mac
  | [] => hx
  | h :: t => ⟨rfl, rfl, rfl, rfl⟩
theorem bld_kind (hd body : List UInt8) (box : Nat) : ∀ l : List HopL, (bldR (initB hd body box) l).2 = kindM (bldR (initB hd body box) l).2 ∧ (bldR (initB hd body box) l).2.last = l.isEmpty
  | [] => ⟨rfl, rfl⟩
  | h :: t => ⟨rfl, rfl⟩
theorem inSlot_right {h : HopL} {s : Slot} (hl : h.lo ≤ h.hi) (hs : s = kindM s) : rightM (inSlot h s) := by
  refine ⟨hl, ?_⟩
  obtain ⟨last, next, box, who, epoch, nonce, mac, lo, hi, delay⟩ := s
  cases last <;> simp_all [kindM, inSlot]

/-- WHAT IS PUT IN COMES OUT. -/
theorem peel_build (hops : List HopL) (hn : hops.length ≤ 5) (hk : ∀ h ∈ hops, h.ok) (hw : ∀ h ∈ hops, h.lo ≤ h.hi) (body : List UInt8) (hb : body.length = 256) (box : Nat) (hx : box < 65536) (i : Nat) (hi : i < hops.length) :
    peelE (hops.getD i hop0).key (pktAt hops box body i) = 0 ∧ peelS (hops.getD i hop0).key (pktAt hops box body i) = slotAt hops box body i ∧ peelP (hops.getD i hop0).key (pktAt hops box body i) = pktAt hops box body (i + 1) := by
  have hm : hops.getD i hop0 ∈ hops := by
    rw [List.getD_eq_getElem?_getD, List.getElem?_eq_getElem hi]; exact List.getElem_mem hi
  have hok := bldR_ok (initB_ok (leftH_length hops hops.length) hb hx).1 (initB_ok (leftH_length hops hops.length) hb hx).2 (l := hops.drop (i + 1)) (fun x hx' => hk x (List.mem_of_mem_drop hx'))
  have ht := bld_tail hops hn hk body hb box hx (hops.drop (i + 1)) (i + 1) (by rw [List.length_drop]; omega) rfl
  have hbk := bld_kind (leftH hops hops.length) body box (hops.drop (i + 1))
  have hwt := bld_waits (initB (leftH hops hops.length) body box) ⟨rfl, rfl, rfl, rfl⟩ (hops.drop (i + 1))
  have e : pktAt hops box body i = wrapL (hops.getD i hop0) (slotAt hops box body i) (pktAt hops box body (i + 1)) := by
    unfold pktAt slotAt
    rw [getD_drop hi]
    rfl
  rw [e]
  exact peel_wrap hops i (by omega) (hk _ hm) rfl (inSlot_ok (hk _ hm) hok.2) (inSlot_right (hw _ hm) hbk.1) hok.1 hwt ht
end Go.Proofs.YtoiiiflnnhkjbaaGreatDoor
