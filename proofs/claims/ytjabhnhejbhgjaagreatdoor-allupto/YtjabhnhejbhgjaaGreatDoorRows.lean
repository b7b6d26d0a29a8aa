/-
  NARROWER THAN 'FOR EVERY INPUT', by the rows' own cells (each row's printed sentence says how): Sends: laid · All: laid · Delivered: laid · Finished: laid · Plain: laid · Deaf: laid · Shut: laid.
  DERIVED. THE GIVEN ROWS OF THIS SEAT. 7 by the template 'for every input the law returns true; each argument reads behind the call as it read before'; 0 by the template 'total and deterministic' (their statements: YtjabhnhejbhgjaaGreatDoorTotals.lean).
  GIVEN WITH THE SEED: the statements are not yours to turn. If you find one false, say at which input.
  Laid BY PROGRAM, IN A SANDBOX (cutbox-rows.mjs): the forced cells as the released guide's own fill.sh prints them over the translation cf1b069a6bda3d01… (all of the seat's roots in one cut). By AI agents, Wed Nov 11 2026. No macro, syntax, notation, axiom, sorry.
-/
import Derived.Test.YtjabhnhejbhgjaaGreatDoorChecked
import GoSem.Claim
import GoSem.ClaimJoined
import GoSem.ClaimMapViews
import Derived.JoinedTies
import Derived.KernelRfl
namespace Go.Proofs.YtjabhnhejbhgjaaGreatDoor
/- THE CELL 'sum', in the pinned program and in every row, IS THE sha256 OF THE DUMP (.gsa) THAT YtjabhnhejbhgjaaGreatDoorProg.lean LOADS. Nothing in Lean hashes anything: it is a label: what it is worth is what the hold of that sum in a sandbox is worth. -/
noncomputable def Tryz.pinned : Pinned := { name := "ytjabhnhejbhgjaagreatdoor", sum := "cf1b069a6bda3d011ac4330a64993b381254ffc79b69dd8d4b29b1d33f21e0a8", checked := Tryz.checked }
namespace Rows
def none {H : Type} : Left H := { results := [], args := [] }

/- WHAT THE LISTED PACKAGE-LEVEL VARIABLES READ AS WHEN THE CALL BEGINS. Each datum BY PROGRAM (the guide's laid-datum.mjs) off the statement by which the dump's own 'gosem.cut.vars' lays the variable. In a bare row this is a premise. The card (YtjabhnhejbhgjaaGreatDoorCards.lean) ties it to the program's text. -/
def laid_errors_errorType {H : Type} : DataW H := .iface "internal/reflectlite.rtype" (.agg [.ptr (.lit (.string [101, 114, 114, 111, 114]))])
def laid_murmur_api_ErrConfig {H : Type} : DataW H := .iface "*errors.errorString" (.ptr (.agg [.lit (.string [110, 111, 32, 99, 111, 110, 102, 105, 103, 117, 114, 97, 116, 105, 111, 110])]))
def laid_murmur_api_ErrArg {H : Type} : DataW H := .iface "*errors.errorString" (.ptr (.agg [.lit (.string [115, 111, 109, 101, 116, 104, 105, 110, 103, 32, 116, 104, 97, 116, 32, 109, 97, 121, 32, 110, 111, 116, 32, 98, 101])]))
def laid_murmur_api_ErrFull {H : Type} : DataW H := .iface "*errors.errorString" (.ptr (.agg [.lit (.string [116, 111, 111, 32, 109, 97, 110, 121, 32, 111, 98, 106, 101, 99, 116, 115])]))
def laid_murmur_api_ErrShort {H : Type} : DataW H := .iface "*errors.errorString" (.ptr (.agg [.lit (.string [116, 104, 101, 32, 112, 97, 99, 107, 101, 116, 32, 101, 110, 100, 115, 32, 116, 111, 111, 32, 101, 97, 114, 108, 121])]))
def laid_murmur_api_ErrType {H : Type} : DataW H := .iface "*errors.errorString" (.ptr (.agg [.lit (.string [110, 111, 32, 112, 97, 99, 107, 101, 116, 32, 111, 102, 32, 116, 104, 105, 115, 32, 116, 121, 112, 101])]))
def laid_murmur_api_ErrField {H : Type} : DataW H := .iface "*errors.errorString" (.ptr (.agg [.lit (.string [97, 32, 110, 117, 109, 98, 101, 114, 32, 116, 104, 97, 116, 32, 109, 97, 121, 32, 110, 111, 116, 32, 98, 101])]))
def laid_murmur_api_ErrLong {H : Type} : DataW H := .iface "*errors.errorString" (.ptr (.agg [.lit (.string [116, 104, 101, 32, 112, 97, 99, 107, 101, 116, 32, 103, 111, 101, 115, 32, 111, 110])]))
def laid_murmur_api_ErrClosed {H : Type} : DataW H := .iface "*errors.errorString" (.ptr (.agg [.lit (.string [99, 108, 111, 115, 101, 100])]))

/-- 'murmurlaw.Sends': WHATEVER THE INPUT: true; the input reads as it did. -/
def sendsSpec : ChangeSpec := { name := "sends", fn := fun _ => fun
  | [d] => { results := [.lit (.bool true)], args := [d] }
  | _ => none }
def sendsRow : OpenClaim := { program := "ytjabhnhejbhgjaagreatdoor", sum := "cf1b069a6bda3d011ac4330a64993b381254ffc79b69dd8d4b29b1d33f21e0a8", func := "murmur/murmurlaw.Sends", spec := "sends", inPlace := ["internal/reflectlite.TypeOf", "internal/reflectlite.ValueOf", "(internal/reflectlite.Value).Type", "(internal/reflectlite.Value).IsNil", "(internal/reflectlite.Value).Elem", "(internal/reflectlite.Value).Set"], unfollowed := true, recurses := true, named := ["murmur/api.ErrConfig", "murmur/api.ErrArg", "murmur/api.ErrFull", "murmur/api.ErrShort", "murmur/api.ErrType", "murmur/api.ErrField", "murmur/api.ErrLong", "murmur/api.ErrClosed", "errors.errorType"], apart := false, laid := [("errors.errorType", laid_errors_errorType), ("murmur/api.ErrConfig", laid_murmur_api_ErrConfig), ("murmur/api.ErrArg", laid_murmur_api_ErrArg), ("murmur/api.ErrFull", laid_murmur_api_ErrFull), ("murmur/api.ErrShort", laid_murmur_api_ErrShort), ("murmur/api.ErrType", laid_murmur_api_ErrType), ("murmur/api.ErrField", laid_murmur_api_ErrField), ("murmur/api.ErrLong", laid_murmur_api_ErrLong), ("murmur/api.ErrClosed", laid_murmur_api_ErrClosed)] }
def SendsSaid : Prop := sendsRow.holds Tryz.pinned (OpenSpec.ofChange sendsSpec)

/-- ITS FALSE NEIGHBOUR: 'it returns false'. Refute it at one input. -/
def sendsWrong : ChangeSpec := { name := "sends", fn := fun _ => fun
  | [d] => { results := [.lit (.bool false)], args := [d] }
  | _ => none }
def SendsWrongFalsely : Prop := sendsRow.holds Tryz.pinned (OpenSpec.ofChange sendsWrong)

/-- 'murmurlaw.All': WHATEVER THE INPUT: true; the input reads as it did. -/
def allSpec : ChangeSpec := { name := "all", fn := fun _ => fun
  | [d] => { results := [.lit (.bool true)], args := [d] }
  | _ => none }
def allRow : OpenClaim := { program := "ytjabhnhejbhgjaagreatdoor", sum := "cf1b069a6bda3d011ac4330a64993b381254ffc79b69dd8d4b29b1d33f21e0a8", func := "murmur/murmurlaw.All", spec := "all", inPlace := ["internal/reflectlite.TypeOf", "internal/reflectlite.ValueOf", "(internal/reflectlite.Value).Type", "(internal/reflectlite.Value).IsNil", "(internal/reflectlite.Value).Elem", "(internal/reflectlite.Value).Set"], unfollowed := true, recurses := true, named := ["murmur/api.ErrConfig", "murmur/api.ErrArg", "murmur/api.ErrFull", "murmur/api.ErrShort", "murmur/api.ErrType", "murmur/api.ErrField", "murmur/api.ErrLong", "murmur/api.ErrClosed", "errors.errorType"], apart := false, laid := [("errors.errorType", laid_errors_errorType), ("murmur/api.ErrConfig", laid_murmur_api_ErrConfig), ("murmur/api.ErrArg", laid_murmur_api_ErrArg), ("murmur/api.ErrFull", laid_murmur_api_ErrFull), ("murmur/api.ErrShort", laid_murmur_api_ErrShort), ("murmur/api.ErrType", laid_murmur_api_ErrType), ("murmur/api.ErrField", laid_murmur_api_ErrField), ("murmur/api.ErrLong", laid_murmur_api_ErrLong), ("murmur/api.ErrClosed", laid_murmur_api_ErrClosed)] }
def AllSaid : Prop := allRow.holds Tryz.pinned (OpenSpec.ofChange allSpec)

/-- ITS FALSE NEIGHBOUR: 'it returns false'. Refute it at one input. -/
def allWrong : ChangeSpec := { name := "all", fn := fun _ => fun
  | [d] => { results := [.lit (.bool false)], args := [d] }
  | _ => none }
def AllWrongFalsely : Prop := allRow.holds Tryz.pinned (OpenSpec.ofChange allWrong)

/-- 'murmurkeep.Delivered': WHATEVER THE INPUT: true; the input reads as it did. -/
def deliveredSpec : ChangeSpec := { name := "delivered", fn := fun _ => fun
  | [d1, d2, d3, d4, d5] => { results := [.lit (.bool true)], args := [d1, d2, d3, d4, d5] }
  | _ => none }
def deliveredRow : OpenClaim := { program := "ytjabhnhejbhgjaagreatdoor", sum := "cf1b069a6bda3d011ac4330a64993b381254ffc79b69dd8d4b29b1d33f21e0a8", func := "murmur/murmurkeep.Delivered", spec := "delivered", inPlace := ["internal/reflectlite.TypeOf", "internal/reflectlite.ValueOf", "(internal/reflectlite.Value).Type", "(internal/reflectlite.Value).IsNil", "(internal/reflectlite.Value).Elem", "(internal/reflectlite.Value).Set"], unfollowed := true, recurses := true, named := ["murmur/api.ErrArg", "murmur/api.ErrConfig", "murmur/api.ErrFull", "murmur/api.ErrClosed", "murmur/api.ErrType", "murmur/api.ErrField", "murmur/api.ErrShort", "murmur/api.ErrLong", "errors.errorType"], apart := false, laid := [("errors.errorType", laid_errors_errorType), ("murmur/api.ErrConfig", laid_murmur_api_ErrConfig), ("murmur/api.ErrArg", laid_murmur_api_ErrArg), ("murmur/api.ErrFull", laid_murmur_api_ErrFull), ("murmur/api.ErrShort", laid_murmur_api_ErrShort), ("murmur/api.ErrType", laid_murmur_api_ErrType), ("murmur/api.ErrField", laid_murmur_api_ErrField), ("murmur/api.ErrLong", laid_murmur_api_ErrLong), ("murmur/api.ErrClosed", laid_murmur_api_ErrClosed)] }
def DeliveredSaid : Prop := deliveredRow.holds Tryz.pinned (OpenSpec.ofChange deliveredSpec)

/-- ITS FALSE NEIGHBOUR: 'it returns false'. Refute it at one input. -/
def deliveredWrong : ChangeSpec := { name := "delivered", fn := fun _ => fun
  | [d1, d2, d3, d4, d5] => { results := [.lit (.bool false)], args := [d1, d2, d3, d4, d5] }
  | _ => none }
def DeliveredWrongFalsely : Prop := deliveredRow.holds Tryz.pinned (OpenSpec.ofChange deliveredWrong)

/-- 'murmurkeep.Finished': WHATEVER THE INPUT: true; the input reads as it did. -/
def finishedSpec : ChangeSpec := { name := "finished", fn := fun _ => fun
  | [d1, d2, d3, d4, d5] => { results := [.lit (.bool true)], args := [d1, d2, d3, d4, d5] }
  | _ => none }
def finishedRow : OpenClaim := { program := "ytjabhnhejbhgjaagreatdoor", sum := "cf1b069a6bda3d011ac4330a64993b381254ffc79b69dd8d4b29b1d33f21e0a8", func := "murmur/murmurkeep.Finished", spec := "finished", inPlace := ["internal/reflectlite.TypeOf", "internal/reflectlite.ValueOf", "(internal/reflectlite.Value).Type", "(internal/reflectlite.Value).IsNil", "(internal/reflectlite.Value).Elem", "(internal/reflectlite.Value).Set"], unfollowed := true, recurses := true, named := ["murmur/api.ErrArg", "murmur/api.ErrConfig", "murmur/api.ErrFull", "murmur/api.ErrClosed", "murmur/api.ErrType", "murmur/api.ErrField", "murmur/api.ErrShort", "murmur/api.ErrLong", "errors.errorType"], apart := false, laid := [("errors.errorType", laid_errors_errorType), ("murmur/api.ErrConfig", laid_murmur_api_ErrConfig), ("murmur/api.ErrArg", laid_murmur_api_ErrArg), ("murmur/api.ErrFull", laid_murmur_api_ErrFull), ("murmur/api.ErrShort", laid_murmur_api_ErrShort), ("murmur/api.ErrType", laid_murmur_api_ErrType), ("murmur/api.ErrField", laid_murmur_api_ErrField), ("murmur/api.ErrLong", laid_murmur_api_ErrLong), ("murmur/api.ErrClosed", laid_murmur_api_ErrClosed)] }
def FinishedSaid : Prop := finishedRow.holds Tryz.pinned (OpenSpec.ofChange finishedSpec)

/-- ITS FALSE NEIGHBOUR: 'it returns false'. Refute it at one input. -/
def finishedWrong : ChangeSpec := { name := "finished", fn := fun _ => fun
  | [d1, d2, d3, d4, d5] => { results := [.lit (.bool false)], args := [d1, d2, d3, d4, d5] }
  | _ => none }
def FinishedWrongFalsely : Prop := finishedRow.holds Tryz.pinned (OpenSpec.ofChange finishedWrong)

/-- 'murmurkeep.Plain': WHATEVER THE INPUT: true; the input reads as it did. -/
def plainSpec : ChangeSpec := { name := "plain", fn := fun _ => fun
  | [d1, d2, d3, d4] => { results := [.lit (.bool true)], args := [d1, d2, d3, d4] }
  | _ => none }
def plainRow : OpenClaim := { program := "ytjabhnhejbhgjaagreatdoor", sum := "cf1b069a6bda3d011ac4330a64993b381254ffc79b69dd8d4b29b1d33f21e0a8", func := "murmur/murmurkeep.Plain", spec := "plain", inPlace := ["internal/reflectlite.TypeOf", "internal/reflectlite.ValueOf", "(internal/reflectlite.Value).Type", "(internal/reflectlite.Value).IsNil", "(internal/reflectlite.Value).Elem", "(internal/reflectlite.Value).Set"], unfollowed := true, recurses := true, named := ["murmur/api.ErrArg", "murmur/api.ErrConfig", "murmur/api.ErrFull", "murmur/api.ErrClosed", "murmur/api.ErrType", "murmur/api.ErrField", "murmur/api.ErrShort", "murmur/api.ErrLong", "errors.errorType"], apart := false, laid := [("errors.errorType", laid_errors_errorType), ("murmur/api.ErrConfig", laid_murmur_api_ErrConfig), ("murmur/api.ErrArg", laid_murmur_api_ErrArg), ("murmur/api.ErrFull", laid_murmur_api_ErrFull), ("murmur/api.ErrShort", laid_murmur_api_ErrShort), ("murmur/api.ErrType", laid_murmur_api_ErrType), ("murmur/api.ErrField", laid_murmur_api_ErrField), ("murmur/api.ErrLong", laid_murmur_api_ErrLong), ("murmur/api.ErrClosed", laid_murmur_api_ErrClosed)] }
def PlainSaid : Prop := plainRow.holds Tryz.pinned (OpenSpec.ofChange plainSpec)

/-- ITS FALSE NEIGHBOUR: 'it returns false'. Refute it at one input. -/
def plainWrong : ChangeSpec := { name := "plain", fn := fun _ => fun
  | [d1, d2, d3, d4] => { results := [.lit (.bool false)], args := [d1, d2, d3, d4] }
  | _ => none }
def PlainWrongFalsely : Prop := plainRow.holds Tryz.pinned (OpenSpec.ofChange plainWrong)

/-- 'murmurkeep.Deaf': WHATEVER THE INPUT: true; the input reads as it did. -/
def deafSpec : ChangeSpec := { name := "deaf", fn := fun _ => fun
  | [d1, d2, d3, d4, d5] => { results := [.lit (.bool true)], args := [d1, d2, d3, d4, d5] }
  | _ => none }
def deafRow : OpenClaim := { program := "ytjabhnhejbhgjaagreatdoor", sum := "cf1b069a6bda3d011ac4330a64993b381254ffc79b69dd8d4b29b1d33f21e0a8", func := "murmur/murmurkeep.Deaf", spec := "deaf", inPlace := ["internal/reflectlite.TypeOf", "internal/reflectlite.ValueOf", "(internal/reflectlite.Value).Type", "(internal/reflectlite.Value).IsNil", "(internal/reflectlite.Value).Elem", "(internal/reflectlite.Value).Set"], unfollowed := true, recurses := true, named := ["murmur/api.ErrArg", "murmur/api.ErrConfig", "murmur/api.ErrFull", "murmur/api.ErrClosed", "murmur/api.ErrType", "murmur/api.ErrField", "murmur/api.ErrShort", "murmur/api.ErrLong", "errors.errorType"], apart := false, laid := [("errors.errorType", laid_errors_errorType), ("murmur/api.ErrConfig", laid_murmur_api_ErrConfig), ("murmur/api.ErrArg", laid_murmur_api_ErrArg), ("murmur/api.ErrFull", laid_murmur_api_ErrFull), ("murmur/api.ErrShort", laid_murmur_api_ErrShort), ("murmur/api.ErrType", laid_murmur_api_ErrType), ("murmur/api.ErrField", laid_murmur_api_ErrField), ("murmur/api.ErrLong", laid_murmur_api_ErrLong), ("murmur/api.ErrClosed", laid_murmur_api_ErrClosed)] }
def DeafSaid : Prop := deafRow.holds Tryz.pinned (OpenSpec.ofChange deafSpec)

/-- ITS FALSE NEIGHBOUR: 'it returns false'. Refute it at one input. -/
def deafWrong : ChangeSpec := { name := "deaf", fn := fun _ => fun
  | [d1, d2, d3, d4, d5] => { results := [.lit (.bool false)], args := [d1, d2, d3, d4, d5] }
  | _ => none }
def DeafWrongFalsely : Prop := deafRow.holds Tryz.pinned (OpenSpec.ofChange deafWrong)

/-- 'murmurkeep.Shut': WHATEVER THE INPUT: true; the input reads as it did. -/
def shutSpec : ChangeSpec := { name := "shut", fn := fun _ => fun
  | [d1, d2, d3, d4, d5] => { results := [.lit (.bool true)], args := [d1, d2, d3, d4, d5] }
  | _ => none }
def shutRow : OpenClaim := { program := "ytjabhnhejbhgjaagreatdoor", sum := "cf1b069a6bda3d011ac4330a64993b381254ffc79b69dd8d4b29b1d33f21e0a8", func := "murmur/murmurkeep.Shut", spec := "shut", inPlace := ["internal/reflectlite.TypeOf", "internal/reflectlite.ValueOf", "(internal/reflectlite.Value).Type", "(internal/reflectlite.Value).IsNil", "(internal/reflectlite.Value).Elem", "(internal/reflectlite.Value).Set"], unfollowed := true, recurses := true, named := ["murmur/api.ErrClosed", "murmur/api.ErrArg", "murmur/api.ErrConfig", "murmur/api.ErrFull", "murmur/api.ErrType", "murmur/api.ErrField", "murmur/api.ErrShort", "murmur/api.ErrLong", "errors.errorType"], apart := false, laid := [("errors.errorType", laid_errors_errorType), ("murmur/api.ErrConfig", laid_murmur_api_ErrConfig), ("murmur/api.ErrArg", laid_murmur_api_ErrArg), ("murmur/api.ErrFull", laid_murmur_api_ErrFull), ("murmur/api.ErrShort", laid_murmur_api_ErrShort), ("murmur/api.ErrType", laid_murmur_api_ErrType), ("murmur/api.ErrField", laid_murmur_api_ErrField), ("murmur/api.ErrLong", laid_murmur_api_ErrLong), ("murmur/api.ErrClosed", laid_murmur_api_ErrClosed)] }
def ShutSaid : Prop := shutRow.holds Tryz.pinned (OpenSpec.ofChange shutSpec)

/-- ITS FALSE NEIGHBOUR: 'it returns false'. Refute it at one input. -/
def shutWrong : ChangeSpec := { name := "shut", fn := fun _ => fun
  | [d1, d2, d3, d4, d5] => { results := [.lit (.bool false)], args := [d1, d2, d3, d4, d5] }
  | _ => none }
def ShutWrongFalsely : Prop := shutRow.holds Tryz.pinned (OpenSpec.ofChange shutWrong)

/- THE SECOND FORM. 'bulk': how many values and letters a reading holds, each counted each time it is reached (what is shared counts as often as it is met; a slice's spare places count too). A statement '..UptoSaid' is the law's where the arguments, and the package variables that the reading takes, are together of bulk at most 1048576: NARROWER than '..Said'. Prove '..Said' where nothing that the law and all that it calls make is longer than what came in: it says more and counts as full. Else prove '..UptoSaid'. A law counts once. -/
mutual
def uptoBulk {H : Type} : DataW H → Nat
  | .lit (.string bytes) => bytes.length + 1
  | .lit _ => 1
  | .nil => 1
  | .ptr d => uptoBulk d + 1
  | .slice elems spare => uptoBulkAll elems + uptoBulkAll spare + 1
  | .agg parts => uptoBulkAll parts + 1
  | .iface _ d => uptoBulk d + 1
  | .map entries => uptoBulkEntries entries + 1
  | .held _ => 1
def uptoBulkAll {H : Type} : List (DataW H) → Nat
  | [] => 0
  | d :: r => uptoBulk d + uptoBulkAll r
def uptoBulkEntries {H : Type} : List (Lit × DataW H) → Nat
  | [] => 0
  | x :: r => uptoBulkEntry x + uptoBulkEntries r
def uptoBulkEntry {H : Type} : Lit × DataW H → Nat
  | (.string bytes, d) => bytes.length + uptoBulk d + 1
  | (_, d) => uptoBulk d + 1
 end
def uptoSmall : (H : Type) → List (DataW H) → Bool := fun _ ds => decide (uptoBulkAll ds ≤ 1048576)
def OpenSpec.upto (s : _root_.Go.ChangeSpec) : _root_.Go.OpenSpec := { _root_.Go.OpenSpec.ofChange s with cond := some uptoSmall }

/-- 'murmurlaw.Sends', WHERE WHAT IT READS IS OF BULK AT MOST 1048576: true; the input reads as it did. -/
def sendsUptoRow : OpenClaim := { program := "ytjabhnhejbhgjaagreatdoor", sum := "cf1b069a6bda3d011ac4330a64993b381254ffc79b69dd8d4b29b1d33f21e0a8", func := "murmur/murmurlaw.Sends", spec := "sends", inPlace := ["internal/reflectlite.TypeOf", "internal/reflectlite.ValueOf", "(internal/reflectlite.Value).Type", "(internal/reflectlite.Value).IsNil", "(internal/reflectlite.Value).Elem", "(internal/reflectlite.Value).Set"], unfollowed := true, recurses := true, named := ["murmur/api.ErrConfig", "murmur/api.ErrArg", "murmur/api.ErrFull", "murmur/api.ErrShort", "murmur/api.ErrType", "murmur/api.ErrField", "murmur/api.ErrLong", "murmur/api.ErrClosed", "errors.errorType"], apart := false, laid := [("errors.errorType", laid_errors_errorType), ("murmur/api.ErrConfig", laid_murmur_api_ErrConfig), ("murmur/api.ErrArg", laid_murmur_api_ErrArg), ("murmur/api.ErrFull", laid_murmur_api_ErrFull), ("murmur/api.ErrShort", laid_murmur_api_ErrShort), ("murmur/api.ErrType", laid_murmur_api_ErrType), ("murmur/api.ErrField", laid_murmur_api_ErrField), ("murmur/api.ErrLong", laid_murmur_api_ErrLong), ("murmur/api.ErrClosed", laid_murmur_api_ErrClosed)], narrowed := true }
def SendsUptoSaid : Prop := sendsUptoRow.holds Tryz.pinned (OpenSpec.upto sendsSpec)

/-- 'murmurlaw.All', WHERE WHAT IT READS IS OF BULK AT MOST 1048576: true; the input reads as it did. -/
def allUptoRow : OpenClaim := { program := "ytjabhnhejbhgjaagreatdoor", sum := "cf1b069a6bda3d011ac4330a64993b381254ffc79b69dd8d4b29b1d33f21e0a8", func := "murmur/murmurlaw.All", spec := "all", inPlace := ["internal/reflectlite.TypeOf", "internal/reflectlite.ValueOf", "(internal/reflectlite.Value).Type", "(internal/reflectlite.Value).IsNil", "(internal/reflectlite.Value).Elem", "(internal/reflectlite.Value).Set"], unfollowed := true, recurses := true, named := ["murmur/api.ErrConfig", "murmur/api.ErrArg", "murmur/api.ErrFull", "murmur/api.ErrShort", "murmur/api.ErrType", "murmur/api.ErrField", "murmur/api.ErrLong", "murmur/api.ErrClosed", "errors.errorType"], apart := false, laid := [("errors.errorType", laid_errors_errorType), ("murmur/api.ErrConfig", laid_murmur_api_ErrConfig), ("murmur/api.ErrArg", laid_murmur_api_ErrArg), ("murmur/api.ErrFull", laid_murmur_api_ErrFull), ("murmur/api.ErrShort", laid_murmur_api_ErrShort), ("murmur/api.ErrType", laid_murmur_api_ErrType), ("murmur/api.ErrField", laid_murmur_api_ErrField), ("murmur/api.ErrLong", laid_murmur_api_ErrLong), ("murmur/api.ErrClosed", laid_murmur_api_ErrClosed)], narrowed := true }
def AllUptoSaid : Prop := allUptoRow.holds Tryz.pinned (OpenSpec.upto allSpec)

/-- 'murmurkeep.Delivered', WHERE WHAT IT READS IS OF BULK AT MOST 1048576: true; the input reads as it did. -/
def deliveredUptoRow : OpenClaim := { program := "ytjabhnhejbhgjaagreatdoor", sum := "cf1b069a6bda3d011ac4330a64993b381254ffc79b69dd8d4b29b1d33f21e0a8", func := "murmur/murmurkeep.Delivered", spec := "delivered", inPlace := ["internal/reflectlite.TypeOf", "internal/reflectlite.ValueOf", "(internal/reflectlite.Value).Type", "(internal/reflectlite.Value).IsNil", "(internal/reflectlite.Value).Elem", "(internal/reflectlite.Value).Set"], unfollowed := true, recurses := true, named := ["murmur/api.ErrArg", "murmur/api.ErrConfig", "murmur/api.ErrFull", "murmur/api.ErrClosed", "murmur/api.ErrType", "murmur/api.ErrField", "murmur/api.ErrShort", "murmur/api.ErrLong", "errors.errorType"], apart := false, laid := [("errors.errorType", laid_errors_errorType), ("murmur/api.ErrConfig", laid_murmur_api_ErrConfig), ("murmur/api.ErrArg", laid_murmur_api_ErrArg), ("murmur/api.ErrFull", laid_murmur_api_ErrFull), ("murmur/api.ErrShort", laid_murmur_api_ErrShort), ("murmur/api.ErrType", laid_murmur_api_ErrType), ("murmur/api.ErrField", laid_murmur_api_ErrField), ("murmur/api.ErrLong", laid_murmur_api_ErrLong), ("murmur/api.ErrClosed", laid_murmur_api_ErrClosed)], narrowed := true }
def DeliveredUptoSaid : Prop := deliveredUptoRow.holds Tryz.pinned (OpenSpec.upto deliveredSpec)

/-- 'murmurkeep.Finished', WHERE WHAT IT READS IS OF BULK AT MOST 1048576: true; the input reads as it did. -/
def finishedUptoRow : OpenClaim := { program := "ytjabhnhejbhgjaagreatdoor", sum := "cf1b069a6bda3d011ac4330a64993b381254ffc79b69dd8d4b29b1d33f21e0a8", func := "murmur/murmurkeep.Finished", spec := "finished", inPlace := ["internal/reflectlite.TypeOf", "internal/reflectlite.ValueOf", "(internal/reflectlite.Value).Type", "(internal/reflectlite.Value).IsNil", "(internal/reflectlite.Value).Elem", "(internal/reflectlite.Value).Set"], unfollowed := true, recurses := true, named := ["murmur/api.ErrArg", "murmur/api.ErrConfig", "murmur/api.ErrFull", "murmur/api.ErrClosed", "murmur/api.ErrType", "murmur/api.ErrField", "murmur/api.ErrShort", "murmur/api.ErrLong", "errors.errorType"], apart := false, laid := [("errors.errorType", laid_errors_errorType), ("murmur/api.ErrConfig", laid_murmur_api_ErrConfig), ("murmur/api.ErrArg", laid_murmur_api_ErrArg), ("murmur/api.ErrFull", laid_murmur_api_ErrFull), ("murmur/api.ErrShort", laid_murmur_api_ErrShort), ("murmur/api.ErrType", laid_murmur_api_ErrType), ("murmur/api.ErrField", laid_murmur_api_ErrField), ("murmur/api.ErrLong", laid_murmur_api_ErrLong), ("murmur/api.ErrClosed", laid_murmur_api_ErrClosed)], narrowed := true }
def FinishedUptoSaid : Prop := finishedUptoRow.holds Tryz.pinned (OpenSpec.upto finishedSpec)

/-- 'murmurkeep.Plain', WHERE WHAT IT READS IS OF BULK AT MOST 1048576: true; the input reads as it did. -/
def plainUptoRow : OpenClaim := { program := "ytjabhnhejbhgjaagreatdoor", sum := "cf1b069a6bda3d011ac4330a64993b381254ffc79b69dd8d4b29b1d33f21e0a8", func := "murmur/murmurkeep.Plain", spec := "plain", inPlace := ["internal/reflectlite.TypeOf", "internal/reflectlite.ValueOf", "(internal/reflectlite.Value).Type", "(internal/reflectlite.Value).IsNil", "(internal/reflectlite.Value).Elem", "(internal/reflectlite.Value).Set"], unfollowed := true, recurses := true, named := ["murmur/api.ErrArg", "murmur/api.ErrConfig", "murmur/api.ErrFull", "murmur/api.ErrClosed", "murmur/api.ErrType", "murmur/api.ErrField", "murmur/api.ErrShort", "murmur/api.ErrLong", "errors.errorType"], apart := false, laid := [("errors.errorType", laid_errors_errorType), ("murmur/api.ErrConfig", laid_murmur_api_ErrConfig), ("murmur/api.ErrArg", laid_murmur_api_ErrArg), ("murmur/api.ErrFull", laid_murmur_api_ErrFull), ("murmur/api.ErrShort", laid_murmur_api_ErrShort), ("murmur/api.ErrType", laid_murmur_api_ErrType), ("murmur/api.ErrField", laid_murmur_api_ErrField), ("murmur/api.ErrLong", laid_murmur_api_ErrLong), ("murmur/api.ErrClosed", laid_murmur_api_ErrClosed)], narrowed := true }
def PlainUptoSaid : Prop := plainUptoRow.holds Tryz.pinned (OpenSpec.upto plainSpec)

/-- 'murmurkeep.Deaf', WHERE WHAT IT READS IS OF BULK AT MOST 1048576: true; the input reads as it did. -/
def deafUptoRow : OpenClaim := { program := "ytjabhnhejbhgjaagreatdoor", sum := "cf1b069a6bda3d011ac4330a64993b381254ffc79b69dd8d4b29b1d33f21e0a8", func := "murmur/murmurkeep.Deaf", spec := "deaf", inPlace := ["internal/reflectlite.TypeOf", "internal/reflectlite.ValueOf", "(internal/reflectlite.Value).Type", "(internal/reflectlite.Value).IsNil", "(internal/reflectlite.Value).Elem", "(internal/reflectlite.Value).Set"], unfollowed := true, recurses := true, named := ["murmur/api.ErrArg", "murmur/api.ErrConfig", "murmur/api.ErrFull", "murmur/api.ErrClosed", "murmur/api.ErrType", "murmur/api.ErrField", "murmur/api.ErrShort", "murmur/api.ErrLong", "errors.errorType"], apart := false, laid := [("errors.errorType", laid_errors_errorType), ("murmur/api.ErrConfig", laid_murmur_api_ErrConfig), ("murmur/api.ErrArg", laid_murmur_api_ErrArg), ("murmur/api.ErrFull", laid_murmur_api_ErrFull), ("murmur/api.ErrShort", laid_murmur_api_ErrShort), ("murmur/api.ErrType", laid_murmur_api_ErrType), ("murmur/api.ErrField", laid_murmur_api_ErrField), ("murmur/api.ErrLong", laid_murmur_api_ErrLong), ("murmur/api.ErrClosed", laid_murmur_api_ErrClosed)], narrowed := true }
def DeafUptoSaid : Prop := deafUptoRow.holds Tryz.pinned (OpenSpec.upto deafSpec)

/-- 'murmurkeep.Shut', WHERE WHAT IT READS IS OF BULK AT MOST 1048576: true; the input reads as it did. -/
def shutUptoRow : OpenClaim := { program := "ytjabhnhejbhgjaagreatdoor", sum := "cf1b069a6bda3d011ac4330a64993b381254ffc79b69dd8d4b29b1d33f21e0a8", func := "murmur/murmurkeep.Shut", spec := "shut", inPlace := ["internal/reflectlite.TypeOf", "internal/reflectlite.ValueOf", "(internal/reflectlite.Value).Type", "(internal/reflectlite.Value).IsNil", "(internal/reflectlite.Value).Elem", "(internal/reflectlite.Value).Set"], unfollowed := true, recurses := true, named := ["murmur/api.ErrClosed", "murmur/api.ErrArg", "murmur/api.ErrConfig", "murmur/api.ErrFull", "murmur/api.ErrType", "murmur/api.ErrField", "murmur/api.ErrShort", "murmur/api.ErrLong", "errors.errorType"], apart := false, laid := [("errors.errorType", laid_errors_errorType), ("murmur/api.ErrConfig", laid_murmur_api_ErrConfig), ("murmur/api.ErrArg", laid_murmur_api_ErrArg), ("murmur/api.ErrFull", laid_murmur_api_ErrFull), ("murmur/api.ErrShort", laid_murmur_api_ErrShort), ("murmur/api.ErrType", laid_murmur_api_ErrType), ("murmur/api.ErrField", laid_murmur_api_ErrField), ("murmur/api.ErrLong", laid_murmur_api_ErrLong), ("murmur/api.ErrClosed", laid_murmur_api_ErrClosed)], narrowed := true }
def ShutUptoSaid : Prop := shutUptoRow.holds Tryz.pinned (OpenSpec.upto shutSpec)

end Rows
end Go.Proofs.YtjabhnhejbhgjaaGreatDoor
