/-
  NARROWER THAN 'FOR EVERY INPUT', by the rows' own cells (each row's printed sentence says how): OnionBack: laid · OnionMAC: laid · OnionEnd: laid · OnionAgain: laid · OnionBody: laid.
  DERIVED. THE GIVEN ROWS OF THIS SEAT. 5 by the template 'for every input the law returns true; each argument reads behind the call as it read before'; 0 by the template 'total and deterministic' (their statements: YtoiiiflnnhkjbaaDoorTotals.lean).
  GIVEN WITH THE SEED: the statements are not yours to turn. If you find one false, say at which input.
  Laid BY PROGRAM, IN A SANDBOX (cutbox-rows.mjs): the forced cells as the released guide's own fill.sh prints them over the translation 7d137eceb40f27dc… (all of the seat's roots in one cut). By AI agents, Wed Nov 11 2026. No macro, syntax, notation, axiom, sorry.
-/
import Derived.Test.YtoiiiflnnhkjbaaDoorChecked
import GoSem.Claim
import GoSem.ClaimJoined
import GoSem.ClaimMapViews
import Derived.JoinedTies
import Derived.KernelRfl
namespace Go.Proofs.YtoiiiflnnhkjbaaDoor
/- THE CELL 'sum', in the pinned program and in every row, IS THE sha256 OF THE DUMP (.gsa) THAT YtoiiiflnnhkjbaaDoorProg.lean LOADS. Nothing in Lean hashes anything: it is a label: what it is worth is what the hold of that sum in a sandbox is worth. -/
noncomputable def Tryd.pinned : Pinned := { name := "ytoiiiflnnhkjbaadoor", sum := "7d137eceb40f27dc788a45f8983c9534c031cf2b85610187d1a62a30dec0ee04", checked := Tryd.checked }
namespace Rows
def none {H : Type} : Left H := { results := [], args := [] }

/- WHAT THE LISTED PACKAGE-LEVEL VARIABLES READ AS WHEN THE CALL BEGINS. Each datum BY PROGRAM (the guide's laid-datum.mjs) off the statement by which the dump's own 'gosem.cut.vars' lays the variable. In a bare row this is a premise. The card (YtoiiiflnnhkjbaaDoorCards.lean) ties it to the program's text. -/
def laid_hourglass_sha_k {H : Type} : DataW H := .agg [.lit (.int .u32 1116352408), .lit (.int .u32 1899447441), .lit (.int .u32 3049323471), .lit (.int .u32 3921009573), .lit (.int .u32 961987163), .lit (.int .u32 1508970993), .lit (.int .u32 2453635748), .lit (.int .u32 2870763221), .lit (.int .u32 3624381080), .lit (.int .u32 310598401), .lit (.int .u32 607225278), .lit (.int .u32 1426881987), .lit (.int .u32 1925078388), .lit (.int .u32 2162078206), .lit (.int .u32 2614888103), .lit (.int .u32 3248222580), .lit (.int .u32 3835390401), .lit (.int .u32 4022224774), .lit (.int .u32 264347078), .lit (.int .u32 604807628), .lit (.int .u32 770255983), .lit (.int .u32 1249150122), .lit (.int .u32 1555081692), .lit (.int .u32 1996064986), .lit (.int .u32 2554220882), .lit (.int .u32 2821834349), .lit (.int .u32 2952996808), .lit (.int .u32 3210313671), .lit (.int .u32 3336571891), .lit (.int .u32 3584528711), .lit (.int .u32 113926993), .lit (.int .u32 338241895), .lit (.int .u32 666307205), .lit (.int .u32 773529912), .lit (.int .u32 1294757372), .lit (.int .u32 1396182291), .lit (.int .u32 1695183700), .lit (.int .u32 1986661051), .lit (.int .u32 2177026350), .lit (.int .u32 2456956037), .lit (.int .u32 2730485921), .lit (.int .u32 2820302411), .lit (.int .u32 3259730800), .lit (.int .u32 3345764771), .lit (.int .u32 3516065817), .lit (.int .u32 3600352804), .lit (.int .u32 4094571909), .lit (.int .u32 275423344), .lit (.int .u32 430227734), .lit (.int .u32 506948616), .lit (.int .u32 659060556), .lit (.int .u32 883997877), .lit (.int .u32 958139571), .lit (.int .u32 1322822218), .lit (.int .u32 1537002063), .lit (.int .u32 1747873779), .lit (.int .u32 1955562222), .lit (.int .u32 2024104815), .lit (.int .u32 2227730452), .lit (.int .u32 2361852424), .lit (.int .u32 2428436474), .lit (.int .u32 2756734187), .lit (.int .u32 3204031479), .lit (.int .u32 3329325298)]
def laid_hourglass_sha_first {H : Type} : DataW H := .agg [.lit (.int .u32 1779033703), .lit (.int .u32 3144134277), .lit (.int .u32 1013904242), .lit (.int .u32 2773480762), .lit (.int .u32 1359893119), .lit (.int .u32 2600822924), .lit (.int .u32 528734635), .lit (.int .u32 1541459225)]
def laid_hourglass_chacha_first {H : Type} : DataW H := .agg [.lit (.int .u32 1634760805), .lit (.int .u32 857760878), .lit (.int .u32 2036477234), .lit (.int .u32 1797285236)]
def laid_hourglass_chacha_quarters {H : Type} : DataW H := .agg [.agg [.lit (.int .i64 0), .lit (.int .i64 4), .lit (.int .i64 8), .lit (.int .i64 12)], .agg [.lit (.int .i64 1), .lit (.int .i64 5), .lit (.int .i64 9), .lit (.int .i64 13)], .agg [.lit (.int .i64 2), .lit (.int .i64 6), .lit (.int .i64 10), .lit (.int .i64 14)], .agg [.lit (.int .i64 3), .lit (.int .i64 7), .lit (.int .i64 11), .lit (.int .i64 15)], .agg [.lit (.int .i64 0), .lit (.int .i64 5), .lit (.int .i64 10), .lit (.int .i64 15)], .agg [.lit (.int .i64 1), .lit (.int .i64 6), .lit (.int .i64 11), .lit (.int .i64 12)], .agg [.lit (.int .i64 2), .lit (.int .i64 7), .lit (.int .i64 8), .lit (.int .i64 13)], .agg [.lit (.int .i64 3), .lit (.int .i64 4), .lit (.int .i64 9), .lit (.int .i64 14)]]

/-- 'hourglasslaw11.OnionBack': WHATEVER THE INPUT: true; the input reads as it did. -/
def onionBackSpec : ChangeSpec := { name := "onionBack", fn := fun _ => fun
  | [d1, d2, d3] => { results := [.lit (.bool true)], args := [d1, d2, d3] }
  | _ => none }
def onionBackRow : OpenClaim := { program := "ytoiiiflnnhkjbaadoor", sum := "7d137eceb40f27dc788a45f8983c9534c031cf2b85610187d1a62a30dec0ee04", func := "hourglass/hourglasslaw11.OnionBack", spec := "onionBack", unfollowed := true, recurses := true, named := ["hourglass/sha.k", "hourglass/sha.first", "hourglass/chacha.first", "hourglass/chacha.quarters"], apart := false, laid := [("hourglass/sha.k", laid_hourglass_sha_k), ("hourglass/sha.first", laid_hourglass_sha_first), ("hourglass/chacha.first", laid_hourglass_chacha_first), ("hourglass/chacha.quarters", laid_hourglass_chacha_quarters)] }
def OnionBackSaid : Prop := onionBackRow.holds Tryd.pinned (OpenSpec.ofChange onionBackSpec)

/-- ITS FALSE NEIGHBOUR: 'it returns false'. Refute it at one input. -/
def onionBackWrong : ChangeSpec := { name := "onionBack", fn := fun _ => fun
  | [d1, d2, d3] => { results := [.lit (.bool false)], args := [d1, d2, d3] }
  | _ => none }
def OnionBackWrongFalsely : Prop := onionBackRow.holds Tryd.pinned (OpenSpec.ofChange onionBackWrong)

/-- 'hourglasslaw11.OnionMAC': WHATEVER THE INPUT: true; the input reads as it did. -/
def onionMACSpec : ChangeSpec := { name := "onionMAC", fn := fun _ => fun
  | [d1, d2, d3, d4, d5] => { results := [.lit (.bool true)], args := [d1, d2, d3, d4, d5] }
  | _ => none }
def onionMACRow : OpenClaim := { program := "ytoiiiflnnhkjbaadoor", sum := "7d137eceb40f27dc788a45f8983c9534c031cf2b85610187d1a62a30dec0ee04", func := "hourglass/hourglasslaw11.OnionMAC", spec := "onionMAC", unfollowed := true, recurses := true, named := ["hourglass/sha.k", "hourglass/sha.first", "hourglass/chacha.first", "hourglass/chacha.quarters"], apart := false, laid := [("hourglass/sha.k", laid_hourglass_sha_k), ("hourglass/sha.first", laid_hourglass_sha_first), ("hourglass/chacha.first", laid_hourglass_chacha_first), ("hourglass/chacha.quarters", laid_hourglass_chacha_quarters)] }
def OnionMACSaid : Prop := onionMACRow.holds Tryd.pinned (OpenSpec.ofChange onionMACSpec)

/-- ITS FALSE NEIGHBOUR: 'it returns false'. Refute it at one input. -/
def onionMACWrong : ChangeSpec := { name := "onionMAC", fn := fun _ => fun
  | [d1, d2, d3, d4, d5] => { results := [.lit (.bool false)], args := [d1, d2, d3, d4, d5] }
  | _ => none }
def OnionMACWrongFalsely : Prop := onionMACRow.holds Tryd.pinned (OpenSpec.ofChange onionMACWrong)

/-- 'hourglasslaw11.OnionEnd': WHATEVER THE INPUT: true; the input reads as it did. -/
def onionEndSpec : ChangeSpec := { name := "onionEnd", fn := fun _ => fun
  | [d1, d2, d3] => { results := [.lit (.bool true)], args := [d1, d2, d3] }
  | _ => none }
def onionEndRow : OpenClaim := { program := "ytoiiiflnnhkjbaadoor", sum := "7d137eceb40f27dc788a45f8983c9534c031cf2b85610187d1a62a30dec0ee04", func := "hourglass/hourglasslaw11.OnionEnd", spec := "onionEnd", unfollowed := true, recurses := true, named := ["hourglass/sha.k", "hourglass/sha.first", "hourglass/chacha.first", "hourglass/chacha.quarters"], apart := false, laid := [("hourglass/sha.k", laid_hourglass_sha_k), ("hourglass/sha.first", laid_hourglass_sha_first), ("hourglass/chacha.first", laid_hourglass_chacha_first), ("hourglass/chacha.quarters", laid_hourglass_chacha_quarters)] }
def OnionEndSaid : Prop := onionEndRow.holds Tryd.pinned (OpenSpec.ofChange onionEndSpec)

/-- ITS FALSE NEIGHBOUR: 'it returns false'. Refute it at one input. -/
def onionEndWrong : ChangeSpec := { name := "onionEnd", fn := fun _ => fun
  | [d1, d2, d3] => { results := [.lit (.bool false)], args := [d1, d2, d3] }
  | _ => none }
def OnionEndWrongFalsely : Prop := onionEndRow.holds Tryd.pinned (OpenSpec.ofChange onionEndWrong)

/-- 'hourglasslaw11.OnionAgain': WHATEVER THE INPUT: true; the input reads as it did. -/
def onionAgainSpec : ChangeSpec := { name := "onionAgain", fn := fun _ => fun
  | [d1, d2, d3] => { results := [.lit (.bool true)], args := [d1, d2, d3] }
  | _ => none }
def onionAgainRow : OpenClaim := { program := "ytoiiiflnnhkjbaadoor", sum := "7d137eceb40f27dc788a45f8983c9534c031cf2b85610187d1a62a30dec0ee04", func := "hourglass/hourglasslaw11.OnionAgain", spec := "onionAgain", unfollowed := true, recurses := true, named := ["hourglass/sha.k", "hourglass/sha.first", "hourglass/chacha.first", "hourglass/chacha.quarters"], apart := false, laid := [("hourglass/sha.k", laid_hourglass_sha_k), ("hourglass/sha.first", laid_hourglass_sha_first), ("hourglass/chacha.first", laid_hourglass_chacha_first), ("hourglass/chacha.quarters", laid_hourglass_chacha_quarters)] }
def OnionAgainSaid : Prop := onionAgainRow.holds Tryd.pinned (OpenSpec.ofChange onionAgainSpec)

/-- ITS FALSE NEIGHBOUR: 'it returns false'. Refute it at one input. -/
def onionAgainWrong : ChangeSpec := { name := "onionAgain", fn := fun _ => fun
  | [d1, d2, d3] => { results := [.lit (.bool false)], args := [d1, d2, d3] }
  | _ => none }
def OnionAgainWrongFalsely : Prop := onionAgainRow.holds Tryd.pinned (OpenSpec.ofChange onionAgainWrong)

/-- 'hourglasslaw11.OnionBody': WHATEVER THE INPUT: true; the input reads as it did. -/
def onionBodySpec : ChangeSpec := { name := "onionBody", fn := fun _ => fun
  | [d1, d2, d3, d4] => { results := [.lit (.bool true)], args := [d1, d2, d3, d4] }
  | _ => none }
def onionBodyRow : OpenClaim := { program := "ytoiiiflnnhkjbaadoor", sum := "7d137eceb40f27dc788a45f8983c9534c031cf2b85610187d1a62a30dec0ee04", func := "hourglass/hourglasslaw11.OnionBody", spec := "onionBody", unfollowed := true, recurses := true, named := ["hourglass/sha.k", "hourglass/sha.first", "hourglass/chacha.first", "hourglass/chacha.quarters"], apart := false, laid := [("hourglass/sha.k", laid_hourglass_sha_k), ("hourglass/sha.first", laid_hourglass_sha_first), ("hourglass/chacha.first", laid_hourglass_chacha_first), ("hourglass/chacha.quarters", laid_hourglass_chacha_quarters)] }
def OnionBodySaid : Prop := onionBodyRow.holds Tryd.pinned (OpenSpec.ofChange onionBodySpec)

/-- ITS FALSE NEIGHBOUR: 'it returns false'. Refute it at one input. -/
def onionBodyWrong : ChangeSpec := { name := "onionBody", fn := fun _ => fun
  | [d1, d2, d3, d4] => { results := [.lit (.bool false)], args := [d1, d2, d3, d4] }
  | _ => none }
def OnionBodyWrongFalsely : Prop := onionBodyRow.holds Tryd.pinned (OpenSpec.ofChange onionBodyWrong)

/- THE SECOND FORM. 'bulk': how many values and letters a reading holds, each counted each time it is reached (what is shared counts as often as it is met; a slice's spare places count too). A statement '..UptoSaid' is the law's where the arguments, and the package variables that the reading takes, are together of bulk at most 1048576: NARROWER than '..Said'. Prove '..Said' where nothing that the law and all that it calls make is longer than what came in: it says more and counts as full. Else prove '..UptoSaid'. A law counts once. -/
mutual
def uptoBulk {H : Type} : DataW H → Nat
  | .lit (.string bytes) => bytes.length + 1
  | .lit _ => 1
  | .nil => 1
  | .ptr d => uptoBulk d + 1
  | .slice elems spare => uptoBulkAll elems + uptoBulkAll spare + 1
  | .agg parts => uptoBulkAll parts + 1
  | .iface _ d => uptoBulk d + 1
  | .map entries => uptoBulkEntries entries + 1
  | .held _ => 1
def uptoBulkAll {H : Type} : List (DataW H) → Nat
  | [] => 0
  | d :: r => uptoBulk d + uptoBulkAll r
def uptoBulkEntries {H : Type} : List (Lit × DataW H) → Nat
  | [] => 0
  | x :: r => uptoBulkEntry x + uptoBulkEntries r
def uptoBulkEntry {H : Type} : Lit × DataW H → Nat
  | (.string bytes, d) => bytes.length + uptoBulk d + 1
  | (_, d) => uptoBulk d + 1
 end
def uptoSmall : (H : Type) → List (DataW H) → Bool := fun _ ds => decide (uptoBulkAll ds ≤ 1048576)
def OpenSpec.upto (s : _root_.Go.ChangeSpec) : _root_.Go.OpenSpec := { _root_.Go.OpenSpec.ofChange s with cond := some uptoSmall }

/-- 'hourglasslaw11.OnionBack', WHERE WHAT IT READS IS OF BULK AT MOST 1048576: true; the input reads as it did. -/
def onionBackUptoRow : OpenClaim := { program := "ytoiiiflnnhkjbaadoor", sum := "7d137eceb40f27dc788a45f8983c9534c031cf2b85610187d1a62a30dec0ee04", func := "hourglass/hourglasslaw11.OnionBack", spec := "onionBack", unfollowed := true, recurses := true, named := ["hourglass/sha.k", "hourglass/sha.first", "hourglass/chacha.first", "hourglass/chacha.quarters"], apart := false, laid := [("hourglass/sha.k", laid_hourglass_sha_k), ("hourglass/sha.first", laid_hourglass_sha_first), ("hourglass/chacha.first", laid_hourglass_chacha_first), ("hourglass/chacha.quarters", laid_hourglass_chacha_quarters)], narrowed := true }
def OnionBackUptoSaid : Prop := onionBackUptoRow.holds Tryd.pinned (OpenSpec.upto onionBackSpec)

/-- 'hourglasslaw11.OnionMAC', WHERE WHAT IT READS IS OF BULK AT MOST 1048576: true; the input reads as it did. -/
def onionMACUptoRow : OpenClaim := { program := "ytoiiiflnnhkjbaadoor", sum := "7d137eceb40f27dc788a45f8983c9534c031cf2b85610187d1a62a30dec0ee04", func := "hourglass/hourglasslaw11.OnionMAC", spec := "onionMAC", unfollowed := true, recurses := true, named := ["hourglass/sha.k", "hourglass/sha.first", "hourglass/chacha.first", "hourglass/chacha.quarters"], apart := false, laid := [("hourglass/sha.k", laid_hourglass_sha_k), ("hourglass/sha.first", laid_hourglass_sha_first), ("hourglass/chacha.first", laid_hourglass_chacha_first), ("hourglass/chacha.quarters", laid_hourglass_chacha_quarters)], narrowed := true }
def OnionMACUptoSaid : Prop := onionMACUptoRow.holds Tryd.pinned (OpenSpec.upto onionMACSpec)

/-- 'hourglasslaw11.OnionEnd', WHERE WHAT IT READS IS OF BULK AT MOST 1048576: true; the input reads as it did. -/
def onionEndUptoRow : OpenClaim := { program := "ytoiiiflnnhkjbaadoor", sum := "7d137eceb40f27dc788a45f8983c9534c031cf2b85610187d1a62a30dec0ee04", func := "hourglass/hourglasslaw11.OnionEnd", spec := "onionEnd", unfollowed := true, recurses := true, named := ["hourglass/sha.k", "hourglass/sha.first", "hourglass/chacha.first", "hourglass/chacha.quarters"], apart := false, laid := [("hourglass/sha.k", laid_hourglass_sha_k), ("hourglass/sha.first", laid_hourglass_sha_first), ("hourglass/chacha.first", laid_hourglass_chacha_first), ("hourglass/chacha.quarters", laid_hourglass_chacha_quarters)], narrowed := true }
def OnionEndUptoSaid : Prop := onionEndUptoRow.holds Tryd.pinned (OpenSpec.upto onionEndSpec)

/-- 'hourglasslaw11.OnionAgain', WHERE WHAT IT READS IS OF BULK AT MOST 1048576: true; the input reads as it did. -/
def onionAgainUptoRow : OpenClaim := { program := "ytoiiiflnnhkjbaadoor", sum := "7d137eceb40f27dc788a45f8983c9534c031cf2b85610187d1a62a30dec0ee04", func := "hourglass/hourglasslaw11.OnionAgain", spec := "onionAgain", unfollowed := true, recurses := true, named := ["hourglass/sha.k", "hourglass/sha.first", "hourglass/chacha.first", "hourglass/chacha.quarters"], apart := false, laid := [("hourglass/sha.k", laid_hourglass_sha_k), ("hourglass/sha.first", laid_hourglass_sha_first), ("hourglass/chacha.first", laid_hourglass_chacha_first), ("hourglass/chacha.quarters", laid_hourglass_chacha_quarters)], narrowed := true }
def OnionAgainUptoSaid : Prop := onionAgainUptoRow.holds Tryd.pinned (OpenSpec.upto onionAgainSpec)

/-- 'hourglasslaw11.OnionBody', WHERE WHAT IT READS IS OF BULK AT MOST 1048576: true; the input reads as it did. -/
def onionBodyUptoRow : OpenClaim := { program := "ytoiiiflnnhkjbaadoor", sum := "7d137eceb40f27dc788a45f8983c9534c031cf2b85610187d1a62a30dec0ee04", func := "hourglass/hourglasslaw11.OnionBody", spec := "onionBody", unfollowed := true, recurses := true, named := ["hourglass/sha.k", "hourglass/sha.first", "hourglass/chacha.first", "hourglass/chacha.quarters"], apart := false, laid := [("hourglass/sha.k", laid_hourglass_sha_k), ("hourglass/sha.first", laid_hourglass_sha_first), ("hourglass/chacha.first", laid_hourglass_chacha_first), ("hourglass/chacha.quarters", laid_hourglass_chacha_quarters)], narrowed := true }
def OnionBodyUptoSaid : Prop := onionBodyUptoRow.holds Tryd.pinned (OpenSpec.upto onionBodySpec)

end Rows
end Go.Proofs.YtoiiiflnnhkjbaaDoor
