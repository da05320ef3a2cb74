/-
  No cell of these rows narrows 'for every input' (looked for: loops, veiled, ifaces, maps, wideKeys, modest, calm, conditions, laid).
  DERIVED. THE GIVEN ROWS OF THIS SEAT. 9 by the template 'for every input the law returns true; each argument reads behind the call as it read before'; 0 by the template 'total and deterministic' (their statements: YtlendfhehhacpaaGreatTotals.lean).
  GIVEN WITH THE SEED: the statements are not yours to turn. If you find one false, say at which input.
  Laid BY PROGRAM, IN A SANDBOX (cutbox-rows.mjs): the forced cells as the released guide's own fill.sh prints them over the translation 455e59ace3388611… (all of the seat's roots in one cut). By AI agents, Wed Nov 11 2026. No macro, syntax, notation, axiom, sorry.
-/
import Derived.Test.YtlendfhehhacpaaGreatChecked
import GoSem.Claim
import GoSem.ClaimJoined
import GoSem.ClaimMapViews
import Derived.JoinedTies
import Derived.KernelRfl
namespace Go.Proofs.YtlendfhehhacpaaGreat
/- THE CELL 'sum', in the pinned program and in every row, IS THE sha256 OF THE DUMP (.gsa) THAT YtlendfhehhacpaaGreatProg.lean LOADS. Nothing in Lean hashes anything: it is a label: what it is worth is what the hold of that sum in a sandbox is worth. -/
noncomputable def Tryz.pinned : Pinned := { name := "ytlendfhehhacpaagreat", sum := "455e59ace33886110467034a2462fddc4886d1987c7984493ce69b67771f9bc1", checked := Tryz.checked }
namespace Rows
def none {H : Type} : Left H := { results := [], args := [] }

/-- 'niblaw.Goes': WHATEVER THE INPUT: true; the input reads as it did. -/
def goesSpec : ChangeSpec := { name := "goes", fn := fun _ => fun
  | [d] => { results := [.lit (.bool true)], args := [d] }
  | _ => none }
def goesRow : OpenClaim := { program := "ytlendfhehhacpaagreat", sum := "455e59ace33886110467034a2462fddc4886d1987c7984493ce69b67771f9bc1", func := "nib/niblaw.Goes", spec := "goes", unfollowed := true, recurses := true, apart := false }
def GoesSaid : Prop := goesRow.holds Tryz.pinned (OpenSpec.ofChange goesSpec)

/-- ITS FALSE NEIGHBOUR: 'it returns false'. Refute it at one input. -/
def goesWrong : ChangeSpec := { name := "goes", fn := fun _ => fun
  | [d] => { results := [.lit (.bool false)], args := [d] }
  | _ => none }
def GoesWrongFalsely : Prop := goesRow.holds Tryz.pinned (OpenSpec.ofChange goesWrong)

/-- 'niblaw.Verbs': WHATEVER THE INPUT: true; the input reads as it did. -/
def verbsSpec : ChangeSpec := { name := "verbs", fn := fun _ => fun
  | [d] => { results := [.lit (.bool true)], args := [d] }
  | _ => none }
def verbsRow : OpenClaim := { program := "ytlendfhehhacpaagreat", sum := "455e59ace33886110467034a2462fddc4886d1987c7984493ce69b67771f9bc1", func := "nib/niblaw.Verbs", spec := "verbs", unfollowed := true, recurses := true, apart := false }
def VerbsSaid : Prop := verbsRow.holds Tryz.pinned (OpenSpec.ofChange verbsSpec)

/-- ITS FALSE NEIGHBOUR: 'it returns false'. Refute it at one input. -/
def verbsWrong : ChangeSpec := { name := "verbs", fn := fun _ => fun
  | [d] => { results := [.lit (.bool false)], args := [d] }
  | _ => none }
def VerbsWrongFalsely : Prop := verbsRow.holds Tryz.pinned (OpenSpec.ofChange verbsWrong)

/-- 'nibkeep.Settled': WHATEVER THE INPUT: true; the input reads as it did. -/
def settledSpec : ChangeSpec := { name := "settled", fn := fun _ => fun
  | [d1, d2] => { results := [.lit (.bool true)], args := [d1, d2] }
  | _ => none }
def settledRow : OpenClaim := { program := "ytlendfhehhacpaagreat", sum := "455e59ace33886110467034a2462fddc4886d1987c7984493ce69b67771f9bc1", func := "nib/nibkeep.Settled", spec := "settled", unfollowed := true, recurses := true, apart := false }
def SettledSaid : Prop := settledRow.holds Tryz.pinned (OpenSpec.ofChange settledSpec)

/-- ITS FALSE NEIGHBOUR: 'it returns false'. Refute it at one input. -/
def settledWrong : ChangeSpec := { name := "settled", fn := fun _ => fun
  | [d1, d2] => { results := [.lit (.bool false)], args := [d1, d2] }
  | _ => none }
def SettledWrongFalsely : Prop := settledRow.holds Tryz.pinned (OpenSpec.ofChange settledWrong)

/-- 'nibkeep.Parted': WHATEVER THE INPUT: true; the input reads as it did. -/
def partedSpec : ChangeSpec := { name := "parted", fn := fun _ => fun
  | [d1, d2, d3] => { results := [.lit (.bool true)], args := [d1, d2, d3] }
  | _ => none }
def partedRow : OpenClaim := { program := "ytlendfhehhacpaagreat", sum := "455e59ace33886110467034a2462fddc4886d1987c7984493ce69b67771f9bc1", func := "nib/nibkeep.Parted", spec := "parted", unfollowed := true, recurses := true, apart := false }
def PartedSaid : Prop := partedRow.holds Tryz.pinned (OpenSpec.ofChange partedSpec)

/-- ITS FALSE NEIGHBOUR: 'it returns false'. Refute it at one input. -/
def partedWrong : ChangeSpec := { name := "parted", fn := fun _ => fun
  | [d1, d2, d3] => { results := [.lit (.bool false)], args := [d1, d2, d3] }
  | _ => none }
def PartedWrongFalsely : Prop := partedRow.holds Tryz.pinned (OpenSpec.ofChange partedWrong)

/-- 'nibkeep.Undone': WHATEVER THE INPUT: true; the input reads as it did. -/
def undoneSpec : ChangeSpec := { name := "undone", fn := fun _ => fun
  | [d1, d2] => { results := [.lit (.bool true)], args := [d1, d2] }
  | _ => none }
def undoneRow : OpenClaim := { program := "ytlendfhehhacpaagreat", sum := "455e59ace33886110467034a2462fddc4886d1987c7984493ce69b67771f9bc1", func := "nib/nibkeep.Undone", spec := "undone", unfollowed := true, recurses := true, apart := false }
def UndoneSaid : Prop := undoneRow.holds Tryz.pinned (OpenSpec.ofChange undoneSpec)

/-- ITS FALSE NEIGHBOUR: 'it returns false'. Refute it at one input. -/
def undoneWrong : ChangeSpec := { name := "undone", fn := fun _ => fun
  | [d1, d2] => { results := [.lit (.bool false)], args := [d1, d2] }
  | _ => none }
def UndoneWrongFalsely : Prop := undoneRow.holds Tryz.pinned (OpenSpec.ofChange undoneWrong)

/-- 'nibkeep.Looked': WHATEVER THE INPUT: true; the input reads as it did. -/
def lookedSpec : ChangeSpec := { name := "looked", fn := fun _ => fun
  | [d1, d2] => { results := [.lit (.bool true)], args := [d1, d2] }
  | _ => none }
def lookedRow : OpenClaim := { program := "ytlendfhehhacpaagreat", sum := "455e59ace33886110467034a2462fddc4886d1987c7984493ce69b67771f9bc1", func := "nib/nibkeep.Looked", spec := "looked", unfollowed := true, recurses := true, apart := false }
def LookedSaid : Prop := lookedRow.holds Tryz.pinned (OpenSpec.ofChange lookedSpec)

/-- ITS FALSE NEIGHBOUR: 'it returns false'. Refute it at one input. -/
def lookedWrong : ChangeSpec := { name := "looked", fn := fun _ => fun
  | [d1, d2] => { results := [.lit (.bool false)], args := [d1, d2] }
  | _ => none }
def LookedWrongFalsely : Prop := lookedRow.holds Tryz.pinned (OpenSpec.ofChange lookedWrong)

/-- 'nibkeep.Again': WHATEVER THE INPUT: true; the input reads as it did. -/
def againSpec : ChangeSpec := { name := "again", fn := fun _ => fun
  | [d1, d2, d3, d4, d5] => { results := [.lit (.bool true)], args := [d1, d2, d3, d4, d5] }
  | _ => none }
def againRow : OpenClaim := { program := "ytlendfhehhacpaagreat", sum := "455e59ace33886110467034a2462fddc4886d1987c7984493ce69b67771f9bc1", func := "nib/nibkeep.Again", spec := "again", unfollowed := true, recurses := true, apart := false }
def AgainSaid : Prop := againRow.holds Tryz.pinned (OpenSpec.ofChange againSpec)

/-- ITS FALSE NEIGHBOUR: 'it returns false'. Refute it at one input. -/
def againWrong : ChangeSpec := { name := "again", fn := fun _ => fun
  | [d1, d2, d3, d4, d5] => { results := [.lit (.bool false)], args := [d1, d2, d3, d4, d5] }
  | _ => none }
def AgainWrongFalsely : Prop := againRow.holds Tryz.pinned (OpenSpec.ofChange againWrong)

/-- 'nibkeep.Laid': WHATEVER THE INPUT: true; the input reads as it did. -/
def laidSpec : ChangeSpec := { name := "laid", fn := fun _ => fun
  | [d1, d2, d3] => { results := [.lit (.bool true)], args := [d1, d2, d3] }
  | _ => none }
def laidRow : OpenClaim := { program := "ytlendfhehhacpaagreat", sum := "455e59ace33886110467034a2462fddc4886d1987c7984493ce69b67771f9bc1", func := "nib/nibkeep.Laid", spec := "laid", unfollowed := true, recurses := true, apart := false }
def LaidSaid : Prop := laidRow.holds Tryz.pinned (OpenSpec.ofChange laidSpec)

/-- ITS FALSE NEIGHBOUR: 'it returns false'. Refute it at one input. -/
def laidWrong : ChangeSpec := { name := "laid", fn := fun _ => fun
  | [d1, d2, d3] => { results := [.lit (.bool false)], args := [d1, d2, d3] }
  | _ => none }
def LaidWrongFalsely : Prop := laidRow.holds Tryz.pinned (OpenSpec.ofChange laidWrong)

/-- 'niblaw.All': WHATEVER THE INPUT: true; the input reads as it did. -/
def allSpec : ChangeSpec := { name := "all", fn := fun _ => fun
  | [d] => { results := [.lit (.bool true)], args := [d] }
  | _ => none }
def allRow : OpenClaim := { program := "ytlendfhehhacpaagreat", sum := "455e59ace33886110467034a2462fddc4886d1987c7984493ce69b67771f9bc1", func := "nib/niblaw.All", spec := "all", unfollowed := true, recurses := true, apart := false }
def AllSaid : Prop := allRow.holds Tryz.pinned (OpenSpec.ofChange allSpec)

/-- ITS FALSE NEIGHBOUR: 'it returns false'. Refute it at one input. -/
def allWrong : ChangeSpec := { name := "all", fn := fun _ => fun
  | [d] => { results := [.lit (.bool false)], args := [d] }
  | _ => none }
def AllWrongFalsely : Prop := allRow.holds Tryz.pinned (OpenSpec.ofChange allWrong)

/- THE SECOND FORM. 'bulk': how many values and letters a reading holds, each counted each time it is reached (what is shared counts as often as it is met; a slice's spare places count too). A statement '..UptoSaid' is the law's where the arguments, and the package variables that the reading takes, are together of bulk at most 1048576: NARROWER than '..Said'. Prove '..Said' where nothing that the law and all that it calls make is longer than what came in: it says more and counts as full. Else prove '..UptoSaid'. A law counts once. -/
mutual
def uptoBulk {H : Type} : DataW H → Nat
  | .lit (.string bytes) => bytes.length + 1
  | .lit _ => 1
  | .nil => 1
  | .ptr d => uptoBulk d + 1
  | .slice elems spare => uptoBulkAll elems + uptoBulkAll spare + 1
  | .agg parts => uptoBulkAll parts + 1
  | .iface _ d => uptoBulk d + 1
  | .map entries => uptoBulkEntries entries + 1
  | .held _ => 1
def uptoBulkAll {H : Type} : List (DataW H) → Nat
  | [] => 0
  | d :: r => uptoBulk d + uptoBulkAll r
def uptoBulkEntries {H : Type} : List (Lit × DataW H) → Nat
  | [] => 0
  | x :: r => uptoBulkEntry x + uptoBulkEntries r
def uptoBulkEntry {H : Type} : Lit × DataW H → Nat
  | (.string bytes, d) => bytes.length + uptoBulk d + 1
  | (_, d) => uptoBulk d + 1
 end
def uptoSmall : (H : Type) → List (DataW H) → Bool := fun _ ds => decide (uptoBulkAll ds ≤ 1048576)
def OpenSpec.upto (s : _root_.Go.ChangeSpec) : _root_.Go.OpenSpec := { _root_.Go.OpenSpec.ofChange s with cond := some uptoSmall }

/-- 'niblaw.Goes', WHERE WHAT IT READS IS OF BULK AT MOST 1048576: true; the input reads as it did. -/
def goesUptoRow : OpenClaim := { program := "ytlendfhehhacpaagreat", sum := "455e59ace33886110467034a2462fddc4886d1987c7984493ce69b67771f9bc1", func := "nib/niblaw.Goes", spec := "goes", unfollowed := true, recurses := true, apart := false, narrowed := true }
def GoesUptoSaid : Prop := goesUptoRow.holds Tryz.pinned (OpenSpec.upto goesSpec)

/-- 'niblaw.Verbs', WHERE WHAT IT READS IS OF BULK AT MOST 1048576: true; the input reads as it did. -/
def verbsUptoRow : OpenClaim := { program := "ytlendfhehhacpaagreat", sum := "455e59ace33886110467034a2462fddc4886d1987c7984493ce69b67771f9bc1", func := "nib/niblaw.Verbs", spec := "verbs", unfollowed := true, recurses := true, apart := false, narrowed := true }
def VerbsUptoSaid : Prop := verbsUptoRow.holds Tryz.pinned (OpenSpec.upto verbsSpec)

/-- 'nibkeep.Settled', WHERE WHAT IT READS IS OF BULK AT MOST 1048576: true; the input reads as it did. -/
def settledUptoRow : OpenClaim := { program := "ytlendfhehhacpaagreat", sum := "455e59ace33886110467034a2462fddc4886d1987c7984493ce69b67771f9bc1", func := "nib/nibkeep.Settled", spec := "settled", unfollowed := true, recurses := true, apart := false, narrowed := true }
def SettledUptoSaid : Prop := settledUptoRow.holds Tryz.pinned (OpenSpec.upto settledSpec)

/-- 'nibkeep.Parted', WHERE WHAT IT READS IS OF BULK AT MOST 1048576: true; the input reads as it did. -/
def partedUptoRow : OpenClaim := { program := "ytlendfhehhacpaagreat", sum := "455e59ace33886110467034a2462fddc4886d1987c7984493ce69b67771f9bc1", func := "nib/nibkeep.Parted", spec := "parted", unfollowed := true, recurses := true, apart := false, narrowed := true }
def PartedUptoSaid : Prop := partedUptoRow.holds Tryz.pinned (OpenSpec.upto partedSpec)

/-- 'nibkeep.Undone', WHERE WHAT IT READS IS OF BULK AT MOST 1048576: true; the input reads as it did. -/
def undoneUptoRow : OpenClaim := { program := "ytlendfhehhacpaagreat", sum := "455e59ace33886110467034a2462fddc4886d1987c7984493ce69b67771f9bc1", func := "nib/nibkeep.Undone", spec := "undone", unfollowed := true, recurses := true, apart := false, narrowed := true }
def UndoneUptoSaid : Prop := undoneUptoRow.holds Tryz.pinned (OpenSpec.upto undoneSpec)

/-- 'nibkeep.Looked', WHERE WHAT IT READS IS OF BULK AT MOST 1048576: true; the input reads as it did. -/
def lookedUptoRow : OpenClaim := { program := "ytlendfhehhacpaagreat", sum := "455e59ace33886110467034a2462fddc4886d1987c7984493ce69b67771f9bc1", func := "nib/nibkeep.Looked", spec := "looked", unfollowed := true, recurses := true, apart := false, narrowed := true }
def LookedUptoSaid : Prop := lookedUptoRow.holds Tryz.pinned (OpenSpec.upto lookedSpec)

/-- 'nibkeep.Again', WHERE WHAT IT READS IS OF BULK AT MOST 1048576: true; the input reads as it did. -/
def againUptoRow : OpenClaim := { program := "ytlendfhehhacpaagreat", sum := "455e59ace33886110467034a2462fddc4886d1987c7984493ce69b67771f9bc1", func := "nib/nibkeep.Again", spec := "again", unfollowed := true, recurses := true, apart := false, narrowed := true }
def AgainUptoSaid : Prop := againUptoRow.holds Tryz.pinned (OpenSpec.upto againSpec)

/-- 'nibkeep.Laid', WHERE WHAT IT READS IS OF BULK AT MOST 1048576: true; the input reads as it did. -/
def laidUptoRow : OpenClaim := { program := "ytlendfhehhacpaagreat", sum := "455e59ace33886110467034a2462fddc4886d1987c7984493ce69b67771f9bc1", func := "nib/nibkeep.Laid", spec := "laid", unfollowed := true, recurses := true, apart := false, narrowed := true }
def LaidUptoSaid : Prop := laidUptoRow.holds Tryz.pinned (OpenSpec.upto laidSpec)

/-- 'niblaw.All', WHERE WHAT IT READS IS OF BULK AT MOST 1048576: true; the input reads as it did. -/
def allUptoRow : OpenClaim := { program := "ytlendfhehhacpaagreat", sum := "455e59ace33886110467034a2462fddc4886d1987c7984493ce69b67771f9bc1", func := "nib/niblaw.All", spec := "all", unfollowed := true, recurses := true, apart := false, narrowed := true }
def AllUptoSaid : Prop := allUptoRow.holds Tryz.pinned (OpenSpec.upto allSpec)

end Rows
end Go.Proofs.YtlendfhehhacpaaGreat
