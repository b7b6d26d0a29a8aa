/-
  NARROWER THAN 'FOR EVERY INPUT', by the rows' own cells (each row's printed sentence says how): Names: laid · Products: laid · Restored: laid · Packets: laid.
  DERIVED. THE GIVEN ROWS OF THIS SEAT. 4 by the template 'for every input the law returns true; each argument reads behind the call as it read before'; 0 by the template 'total and deterministic' (their statements: YtjabhnhejbhgjaaDoorTotals.lean).
  GIVEN WITH THE SEED: the statements are not yours to turn. If you find one false, say at which input.
  Laid BY PROGRAM, IN A SANDBOX (cutbox-rows.mjs): the forced cells as the released guide's own fill.sh prints them over the translation 4a345ab7d3f7cfd4… (all of the seat's roots in one cut). By AI agents, Wed Nov 11 2026. No macro, syntax, notation, axiom, sorry.
-/
import Derived.Test.YtjabhnhejbhgjaaDoorChecked
import GoSem.Claim
import GoSem.ClaimJoined
import GoSem.ClaimMapViews
import Derived.JoinedTies
import Derived.KernelRfl
namespace Go.Proofs.YtjabhnhejbhgjaaDoor
/- THE CELL 'sum', in the pinned program and in every row, IS THE sha256 OF THE DUMP (.gsa) THAT YtjabhnhejbhgjaaDoorProg.lean LOADS. Nothing in Lean hashes anything: it is a label: what it is worth is what the hold of that sum in a sandbox is worth. -/
noncomputable def Tryd.pinned : Pinned := { name := "ytjabhnhejbhgjaadoor", sum := "4a345ab7d3f7cfd40ce16942e8d924a54221651d87db2679f36676731001c577", checked := Tryd.checked }
namespace Rows
def none {H : Type} : Left H := { results := [], args := [] }

/- WHAT THE LISTED PACKAGE-LEVEL VARIABLES READ AS WHEN THE CALL BEGINS. Each datum BY PROGRAM (the guide's laid-datum.mjs) off the statement by which the dump's own 'gosem.cut.vars' lays the variable. In a bare row this is a premise. The card (YtjabhnhejbhgjaaDoorCards.lean) ties it to the program's text. -/
def laid_murmur_api_ErrConfig {H : Type} : DataW H := .iface "*errors.errorString" (.ptr (.agg [.lit (.string [110, 111, 32, 99, 111, 110, 102, 105, 103, 117, 114, 97, 116, 105, 111, 110])]))
def laid_murmur_api_ErrArg {H : Type} : DataW H := .iface "*errors.errorString" (.ptr (.agg [.lit (.string [115, 111, 109, 101, 116, 104, 105, 110, 103, 32, 116, 104, 97, 116, 32, 109, 97, 121, 32, 110, 111, 116, 32, 98, 101])]))
def laid_murmur_api_ErrFull {H : Type} : DataW H := .iface "*errors.errorString" (.ptr (.agg [.lit (.string [116, 111, 111, 32, 109, 97, 110, 121, 32, 111, 98, 106, 101, 99, 116, 115])]))
def laid_murmur_api_ErrShort {H : Type} : DataW H := .iface "*errors.errorString" (.ptr (.agg [.lit (.string [116, 104, 101, 32, 112, 97, 99, 107, 101, 116, 32, 101, 110, 100, 115, 32, 116, 111, 111, 32, 101, 97, 114, 108, 121])]))
def laid_murmur_api_ErrType {H : Type} : DataW H := .iface "*errors.errorString" (.ptr (.agg [.lit (.string [110, 111, 32, 112, 97, 99, 107, 101, 116, 32, 111, 102, 32, 116, 104, 105, 115, 32, 116, 121, 112, 101])]))
def laid_murmur_api_ErrField {H : Type} : DataW H := .iface "*errors.errorString" (.ptr (.agg [.lit (.string [97, 32, 110, 117, 109, 98, 101, 114, 32, 116, 104, 97, 116, 32, 109, 97, 121, 32, 110, 111, 116, 32, 98, 101])]))
def laid_murmur_api_ErrLong {H : Type} : DataW H := .iface "*errors.errorString" (.ptr (.agg [.lit (.string [116, 104, 101, 32, 112, 97, 99, 107, 101, 116, 32, 103, 111, 101, 115, 32, 111, 110])]))
def laid_murmur_api_ErrClosed {H : Type} : DataW H := .iface "*errors.errorString" (.ptr (.agg [.lit (.string [99, 108, 111, 115, 101, 100])]))
def laid_errors_errorType {H : Type} : DataW H := .iface "internal/reflectlite.rtype" (.agg [.ptr (.lit (.string [101, 114, 114, 111, 114]))])

/-- 'murmurlaw.Names': WHATEVER THE INPUT: true; the input reads as it did. -/
def namesSpec : ChangeSpec := { name := "names", fn := fun _ => fun
  | [] => { results := [.lit (.bool true)], args := [] }
  | _ => none }
def namesRow : OpenClaim := { program := "ytjabhnhejbhgjaadoor", sum := "4a345ab7d3f7cfd40ce16942e8d924a54221651d87db2679f36676731001c577", func := "murmur/murmurlaw.Names", spec := "names", inPlace := ["internal/reflectlite.TypeOf"], unfollowed := true, recurses := true, named := ["murmur/api.ErrConfig", "murmur/api.ErrArg", "murmur/api.ErrFull", "murmur/api.ErrShort", "murmur/api.ErrType", "murmur/api.ErrField", "murmur/api.ErrLong", "murmur/api.ErrClosed"], apart := false, laid := [("murmur/api.ErrConfig", laid_murmur_api_ErrConfig), ("murmur/api.ErrArg", laid_murmur_api_ErrArg), ("murmur/api.ErrFull", laid_murmur_api_ErrFull), ("murmur/api.ErrShort", laid_murmur_api_ErrShort), ("murmur/api.ErrType", laid_murmur_api_ErrType), ("murmur/api.ErrField", laid_murmur_api_ErrField), ("murmur/api.ErrLong", laid_murmur_api_ErrLong), ("murmur/api.ErrClosed", laid_murmur_api_ErrClosed)] }
def NamesSaid : Prop := namesRow.holds Tryd.pinned (OpenSpec.ofChange namesSpec)

/-- ITS FALSE NEIGHBOUR: 'it returns false'. Refute it at one input. -/
def namesWrong : ChangeSpec := { name := "names", fn := fun _ => fun
  | [] => { results := [.lit (.bool false)], args := [] }
  | _ => none }
def NamesWrongFalsely : Prop := namesRow.holds Tryd.pinned (OpenSpec.ofChange namesWrong)

/-- 'murmurlaw.Products': WHATEVER THE INPUT: true; the input reads as it did. -/
def productsSpec : ChangeSpec := { name := "products", fn := fun _ => fun
  | [d1, d2, d3, d4, d5, d6, d7] => { results := [.lit (.bool true)], args := [d1, d2, d3, d4, d5, d6, d7] }
  | _ => none }
def productsRow : OpenClaim := { program := "ytjabhnhejbhgjaadoor", sum := "4a345ab7d3f7cfd40ce16942e8d924a54221651d87db2679f36676731001c577", func := "murmur/murmurlaw.Products", spec := "products", named := ["murmur/api.ErrArg", "murmur/api.ErrConfig", "murmur/api.ErrFull", "murmur/api.ErrShort", "murmur/api.ErrType", "murmur/api.ErrField", "murmur/api.ErrLong", "murmur/api.ErrClosed"], apart := false, laid := [("murmur/api.ErrConfig", laid_murmur_api_ErrConfig), ("murmur/api.ErrArg", laid_murmur_api_ErrArg), ("murmur/api.ErrFull", laid_murmur_api_ErrFull), ("murmur/api.ErrShort", laid_murmur_api_ErrShort), ("murmur/api.ErrType", laid_murmur_api_ErrType), ("murmur/api.ErrField", laid_murmur_api_ErrField), ("murmur/api.ErrLong", laid_murmur_api_ErrLong), ("murmur/api.ErrClosed", laid_murmur_api_ErrClosed)] }
def ProductsSaid : Prop := productsRow.holds Tryd.pinned (OpenSpec.ofChange productsSpec)

/-- ITS FALSE NEIGHBOUR: 'it returns false'. Refute it at one input. -/
def productsWrong : ChangeSpec := { name := "products", fn := fun _ => fun
  | [d1, d2, d3, d4, d5, d6, d7] => { results := [.lit (.bool false)], args := [d1, d2, d3, d4, d5, d6, d7] }
  | _ => none }
def ProductsWrongFalsely : Prop := productsRow.holds Tryd.pinned (OpenSpec.ofChange productsWrong)

/-- 'murmurkeep.Restored': WHATEVER THE INPUT: true; the input reads as it did. -/
def restoredSpec : ChangeSpec := { name := "restored", fn := fun _ => fun
  | [d1, d2, d3, d4] => { results := [.lit (.bool true)], args := [d1, d2, d3, d4] }
  | _ => none }
def restoredRow : OpenClaim := { program := "ytjabhnhejbhgjaadoor", sum := "4a345ab7d3f7cfd40ce16942e8d924a54221651d87db2679f36676731001c577", func := "murmur/murmurkeep.Restored", spec := "restored", named := ["murmur/api.ErrArg"], apart := false, laid := [("murmur/api.ErrArg", laid_murmur_api_ErrArg)] }
def RestoredSaid : Prop := restoredRow.holds Tryd.pinned (OpenSpec.ofChange restoredSpec)

/-- ITS FALSE NEIGHBOUR: 'it returns false'. Refute it at one input. -/
def restoredWrong : ChangeSpec := { name := "restored", fn := fun _ => fun
  | [d1, d2, d3, d4] => { results := [.lit (.bool false)], args := [d1, d2, d3, d4] }
  | _ => none }
def RestoredWrongFalsely : Prop := restoredRow.holds Tryd.pinned (OpenSpec.ofChange restoredWrong)

/-- 'murmurlaw.Packets': WHATEVER THE INPUT: true; the input reads as it did. -/
def packetsSpec : ChangeSpec := { name := "packets", fn := fun _ => fun
  | [d1, d2, d3, d4] => { results := [.lit (.bool true)], args := [d1, d2, d3, d4] }
  | _ => none }
def packetsRow : OpenClaim := { program := "ytjabhnhejbhgjaadoor", sum := "4a345ab7d3f7cfd40ce16942e8d924a54221651d87db2679f36676731001c577", func := "murmur/murmurlaw.Packets", spec := "packets", inPlace := ["internal/reflectlite.TypeOf", "internal/reflectlite.ValueOf", "(internal/reflectlite.Value).Type", "(internal/reflectlite.Value).IsNil", "(internal/reflectlite.Value).Elem", "(internal/reflectlite.Value).Set"], unfollowed := true, recurses := true, named := ["murmur/api.ErrConfig", "murmur/api.ErrType", "murmur/api.ErrField", "murmur/api.ErrShort", "murmur/api.ErrLong", "errors.errorType", "murmur/api.ErrArg", "murmur/api.ErrFull", "murmur/api.ErrClosed"], apart := false, laid := [("errors.errorType", laid_errors_errorType), ("murmur/api.ErrConfig", laid_murmur_api_ErrConfig), ("murmur/api.ErrArg", laid_murmur_api_ErrArg), ("murmur/api.ErrFull", laid_murmur_api_ErrFull), ("murmur/api.ErrShort", laid_murmur_api_ErrShort), ("murmur/api.ErrType", laid_murmur_api_ErrType), ("murmur/api.ErrField", laid_murmur_api_ErrField), ("murmur/api.ErrLong", laid_murmur_api_ErrLong), ("murmur/api.ErrClosed", laid_murmur_api_ErrClosed)] }
def PacketsSaid : Prop := packetsRow.holds Tryd.pinned (OpenSpec.ofChange packetsSpec)

/-- ITS FALSE NEIGHBOUR: 'it returns false'. Refute it at one input. -/
def packetsWrong : ChangeSpec := { name := "packets", fn := fun _ => fun
  | [d1, d2, d3, d4] => { results := [.lit (.bool false)], args := [d1, d2, d3, d4] }
  | _ => none }
def PacketsWrongFalsely : Prop := packetsRow.holds Tryd.pinned (OpenSpec.ofChange packetsWrong)

/- THE SECOND FORM. 'bulk': how many values and letters a reading holds, each counted each time it is reached (what is shared counts as often as it is met; a slice's spare places count too). A statement '..UptoSaid' is the law's where the arguments, and the package variables that the reading takes, are together of bulk at most 1048576: NARROWER than '..Said'. Prove '..Said' where nothing that the law and all that it calls make is longer than what came in: it says more and counts as full. Else prove '..UptoSaid'. A law counts once. -/
mutual
def uptoBulk {H : Type} : DataW H → Nat
  | .lit (.string bytes) => bytes.length + 1
  | .lit _ => 1
  | .nil => 1
  | .ptr d => uptoBulk d + 1
  | .slice elems spare => uptoBulkAll elems + uptoBulkAll spare + 1
  | .agg parts => uptoBulkAll parts + 1
  | .iface _ d => uptoBulk d + 1
  | .map entries => uptoBulkEntries entries + 1
  | .held _ => 1
def uptoBulkAll {H : Type} : List (DataW H) → Nat
  | [] => 0
  | d :: r => uptoBulk d + uptoBulkAll r
def uptoBulkEntries {H : Type} : List (Lit × DataW H) → Nat
  | [] => 0
  | x :: r => uptoBulkEntry x + uptoBulkEntries r
def uptoBulkEntry {H : Type} : Lit × DataW H → Nat
  | (.string bytes, d) => bytes.length + uptoBulk d + 1
  | (_, d) => uptoBulk d + 1
 end
def uptoSmall : (H : Type) → List (DataW H) → Bool := fun _ ds => decide (uptoBulkAll ds ≤ 1048576)
def OpenSpec.upto (s : _root_.Go.ChangeSpec) : _root_.Go.OpenSpec := { _root_.Go.OpenSpec.ofChange s with cond := some uptoSmall }

/-- 'murmurlaw.Names', WHERE WHAT IT READS IS OF BULK AT MOST 1048576: true; the input reads as it did. -/
def namesUptoRow : OpenClaim := { program := "ytjabhnhejbhgjaadoor", sum := "4a345ab7d3f7cfd40ce16942e8d924a54221651d87db2679f36676731001c577", func := "murmur/murmurlaw.Names", spec := "names", inPlace := ["internal/reflectlite.TypeOf"], unfollowed := true, recurses := true, named := ["murmur/api.ErrConfig", "murmur/api.ErrArg", "murmur/api.ErrFull", "murmur/api.ErrShort", "murmur/api.ErrType", "murmur/api.ErrField", "murmur/api.ErrLong", "murmur/api.ErrClosed"], apart := false, laid := [("murmur/api.ErrConfig", laid_murmur_api_ErrConfig), ("murmur/api.ErrArg", laid_murmur_api_ErrArg), ("murmur/api.ErrFull", laid_murmur_api_ErrFull), ("murmur/api.ErrShort", laid_murmur_api_ErrShort), ("murmur/api.ErrType", laid_murmur_api_ErrType), ("murmur/api.ErrField", laid_murmur_api_ErrField), ("murmur/api.ErrLong", laid_murmur_api_ErrLong), ("murmur/api.ErrClosed", laid_murmur_api_ErrClosed)], narrowed := true }
def NamesUptoSaid : Prop := namesUptoRow.holds Tryd.pinned (OpenSpec.upto namesSpec)

/-- 'murmurlaw.Products', WHERE WHAT IT READS IS OF BULK AT MOST 1048576: true; the input reads as it did. -/
def productsUptoRow : OpenClaim := { program := "ytjabhnhejbhgjaadoor", sum := "4a345ab7d3f7cfd40ce16942e8d924a54221651d87db2679f36676731001c577", func := "murmur/murmurlaw.Products", spec := "products", named := ["murmur/api.ErrArg", "murmur/api.ErrConfig", "murmur/api.ErrFull", "murmur/api.ErrShort", "murmur/api.ErrType", "murmur/api.ErrField", "murmur/api.ErrLong", "murmur/api.ErrClosed"], apart := false, laid := [("murmur/api.ErrConfig", laid_murmur_api_ErrConfig), ("murmur/api.ErrArg", laid_murmur_api_ErrArg), ("murmur/api.ErrFull", laid_murmur_api_ErrFull), ("murmur/api.ErrShort", laid_murmur_api_ErrShort), ("murmur/api.ErrType", laid_murmur_api_ErrType), ("murmur/api.ErrField", laid_murmur_api_ErrField), ("murmur/api.ErrLong", laid_murmur_api_ErrLong), ("murmur/api.ErrClosed", laid_murmur_api_ErrClosed)], narrowed := true }
def ProductsUptoSaid : Prop := productsUptoRow.holds Tryd.pinned (OpenSpec.upto productsSpec)

/-- 'murmurkeep.Restored', WHERE WHAT IT READS IS OF BULK AT MOST 1048576: true; the input reads as it did. -/
def restoredUptoRow : OpenClaim := { program := "ytjabhnhejbhgjaadoor", sum := "4a345ab7d3f7cfd40ce16942e8d924a54221651d87db2679f36676731001c577", func := "murmur/murmurkeep.Restored", spec := "restored", named := ["murmur/api.ErrArg"], apart := false, laid := [("murmur/api.ErrArg", laid_murmur_api_ErrArg)], narrowed := true }
def RestoredUptoSaid : Prop := restoredUptoRow.holds Tryd.pinned (OpenSpec.upto restoredSpec)

/-- 'murmurlaw.Packets', WHERE WHAT IT READS IS OF BULK AT MOST 1048576: true; the input reads as it did. -/
def packetsUptoRow : OpenClaim := { program := "ytjabhnhejbhgjaadoor", sum := "4a345ab7d3f7cfd40ce16942e8d924a54221651d87db2679f36676731001c577", func := "murmur/murmurlaw.Packets", spec := "packets", inPlace := ["internal/reflectlite.TypeOf", "internal/reflectlite.ValueOf", "(internal/reflectlite.Value).Type", "(internal/reflectlite.Value).IsNil", "(internal/reflectlite.Value).Elem", "(internal/reflectlite.Value).Set"], unfollowed := true, recurses := true, named := ["murmur/api.ErrConfig", "murmur/api.ErrType", "murmur/api.ErrField", "murmur/api.ErrShort", "murmur/api.ErrLong", "errors.errorType", "murmur/api.ErrArg", "murmur/api.ErrFull", "murmur/api.ErrClosed"], apart := false, laid := [("errors.errorType", laid_errors_errorType), ("murmur/api.ErrConfig", laid_murmur_api_ErrConfig), ("murmur/api.ErrArg", laid_murmur_api_ErrArg), ("murmur/api.ErrFull", laid_murmur_api_ErrFull), ("murmur/api.ErrShort", laid_murmur_api_ErrShort), ("murmur/api.ErrType", laid_murmur_api_ErrType), ("murmur/api.ErrField", laid_murmur_api_ErrField), ("murmur/api.ErrLong", laid_murmur_api_ErrLong), ("murmur/api.ErrClosed", laid_murmur_api_ErrClosed)], narrowed := true }
def PacketsUptoSaid : Prop := packetsUptoRow.holds Tryd.pinned (OpenSpec.upto packetsSpec)

end Rows
end Go.Proofs.YtjabhnhejbhgjaaDoor
