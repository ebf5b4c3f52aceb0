/-
  No cell of these rows narrows 'for every input' (looked for: loops, veiled, ifaces, maps, wideKeys, modest, calm, conditions, laid).
  DERIVED. THE GIVEN ROWS OF THIS SEAT. 12 by the template 'for every input the law returns true; each argument reads behind the call as it read before'; 0 by the template 'total and deterministic' (their statements: YtbedkfgdhaajaaaTotals.lean).
  GIVEN WITH THE SEED: the statements are not yours to turn. If you find one false, say at which input.
  Laid BY PROGRAM, IN A SANDBOX (cutbox-rows.mjs): the forced cells as the released guide's own fill.sh prints them over the translation 513f5aac1914e704… (all of the seat's roots in one cut). By AI agents, Wed Nov 11 2026. No macro, syntax, notation, axiom, sorry.
-/
import Derived.Test.YtbedkfgdhaajaaaChecked
import GoSem.Claim
import GoSem.ClaimJoined
import GoSem.ClaimMapViews
import Derived.JoinedTies
import Derived.KernelRfl
namespace Go.Proofs.Ytbedkfgdhaajaaa
/- THE CELL 'sum', in the pinned program and in every row, IS THE sha256 OF THE DUMP (.gsa) THAT YtbedkfgdhaajaaaProg.lean LOADS. Nothing in Lean hashes anything: it is a label: what it is worth is what the hold of that sum in a sandbox is worth. -/
noncomputable def Try.pinned : Pinned := { name := "ytbedkfgdhaajaaa", sum := "513f5aac1914e70477e63e2b07c66de1252644e078d7189aaa6d20b87813bad9", checked := Try.checked }
namespace Rows
def none {H : Type} : Left H := { results := [], args := [] }

/-- 'tenantslaw.Covers': WHATEVER THE INPUT: true; the input reads as it did. -/
def coversSpec : ChangeSpec := { name := "covers", fn := fun _ => fun
  | [d1, d2, d3] => { results := [.lit (.bool true)], args := [d1, d2, d3] }
  | _ => none }
def coversRow : OpenClaim := { program := "ytbedkfgdhaajaaa", sum := "513f5aac1914e70477e63e2b07c66de1252644e078d7189aaa6d20b87813bad9", func := "tenants/tenantslaw.Covers", spec := "covers", apart := false }
def CoversSaid : Prop := coversRow.holds Try.pinned (OpenSpec.ofChange coversSpec)

/-- ITS FALSE NEIGHBOUR: 'it returns false'. Refute it at one input. -/
def coversWrong : ChangeSpec := { name := "covers", fn := fun _ => fun
  | [d1, d2, d3] => { results := [.lit (.bool false)], args := [d1, d2, d3] }
  | _ => none }
def CoversWrongFalsely : Prop := coversRow.holds Try.pinned (OpenSpec.ofChange coversWrong)

/-- 'tenantskeep.Shared': WHATEVER THE INPUT: true; the input reads as it did. -/
def sharedSpec : ChangeSpec := { name := "shared", fn := fun _ => fun
  | [d1, d2, d3, d4, d5, d6] => { results := [.lit (.bool true)], args := [d1, d2, d3, d4, d5, d6] }
  | _ => none }
def sharedRow : OpenClaim := { program := "ytbedkfgdhaajaaa", sum := "513f5aac1914e70477e63e2b07c66de1252644e078d7189aaa6d20b87813bad9", func := "tenants/tenantskeep.Shared", spec := "shared", apart := false }
def SharedSaid : Prop := sharedRow.holds Try.pinned (OpenSpec.ofChange sharedSpec)

/-- ITS FALSE NEIGHBOUR: 'it returns false'. Refute it at one input. -/
def sharedWrong : ChangeSpec := { name := "shared", fn := fun _ => fun
  | [d1, d2, d3, d4, d5, d6] => { results := [.lit (.bool false)], args := [d1, d2, d3, d4, d5, d6] }
  | _ => none }
def SharedWrongFalsely : Prop := sharedRow.holds Try.pinned (OpenSpec.ofChange sharedWrong)

/-- 'tenantslaw.Verifies': WHATEVER THE INPUT: true; the input reads as it did. -/
def verifiesSpec : ChangeSpec := { name := "verifies", fn := fun _ => fun
  | [d] => { results := [.lit (.bool true)], args := [d] }
  | _ => none }
def verifiesRow : OpenClaim := { program := "ytbedkfgdhaajaaa", sum := "513f5aac1914e70477e63e2b07c66de1252644e078d7189aaa6d20b87813bad9", func := "tenants/tenantslaw.Verifies", spec := "verifies", apart := false }
def VerifiesSaid : Prop := verifiesRow.holds Try.pinned (OpenSpec.ofChange verifiesSpec)

/-- ITS FALSE NEIGHBOUR: 'it returns false'. Refute it at one input. -/
def verifiesWrong : ChangeSpec := { name := "verifies", fn := fun _ => fun
  | [d] => { results := [.lit (.bool false)], args := [d] }
  | _ => none }
def VerifiesWrongFalsely : Prop := verifiesRow.holds Try.pinned (OpenSpec.ofChange verifiesWrong)

/-- 'tenantslaw.Shades': WHATEVER THE INPUT: true; the input reads as it did. -/
def shadesSpec : ChangeSpec := { name := "shades", fn := fun _ => fun
  | [d1, d2, d3] => { results := [.lit (.bool true)], args := [d1, d2, d3] }
  | _ => none }
def shadesRow : OpenClaim := { program := "ytbedkfgdhaajaaa", sum := "513f5aac1914e70477e63e2b07c66de1252644e078d7189aaa6d20b87813bad9", func := "tenants/tenantslaw.Shades", spec := "shades", apart := false }
def ShadesSaid : Prop := shadesRow.holds Try.pinned (OpenSpec.ofChange shadesSpec)

/-- ITS FALSE NEIGHBOUR: 'it returns false'. Refute it at one input. -/
def shadesWrong : ChangeSpec := { name := "shades", fn := fun _ => fun
  | [d1, d2, d3] => { results := [.lit (.bool false)], args := [d1, d2, d3] }
  | _ => none }
def ShadesWrongFalsely : Prop := shadesRow.holds Try.pinned (OpenSpec.ofChange shadesWrong)

/-- 'tenantslaw.Plain': WHATEVER THE INPUT: true; the input reads as it did. -/
def plainSpec : ChangeSpec := { name := "plain", fn := fun _ => fun
  | [d] => { results := [.lit (.bool true)], args := [d] }
  | _ => none }
def plainRow : OpenClaim := { program := "ytbedkfgdhaajaaa", sum := "513f5aac1914e70477e63e2b07c66de1252644e078d7189aaa6d20b87813bad9", func := "tenants/tenantslaw.Plain", spec := "plain", apart := false }
def PlainSaid : Prop := plainRow.holds Try.pinned (OpenSpec.ofChange plainSpec)

/-- ITS FALSE NEIGHBOUR: 'it returns false'. Refute it at one input. -/
def plainWrong : ChangeSpec := { name := "plain", fn := fun _ => fun
  | [d] => { results := [.lit (.bool false)], args := [d] }
  | _ => none }
def PlainWrongFalsely : Prop := plainRow.holds Try.pinned (OpenSpec.ofChange plainWrong)

/-- 'tenantskeep.Clean': WHATEVER THE INPUT: true; the input reads as it did. -/
def cleanSpec : ChangeSpec := { name := "clean", fn := fun _ => fun
  | [d1, d2, d3] => { results := [.lit (.bool true)], args := [d1, d2, d3] }
  | _ => none }
def cleanRow : OpenClaim := { program := "ytbedkfgdhaajaaa", sum := "513f5aac1914e70477e63e2b07c66de1252644e078d7189aaa6d20b87813bad9", func := "tenants/tenantskeep.Clean", spec := "clean", apart := false }
def CleanSaid : Prop := cleanRow.holds Try.pinned (OpenSpec.ofChange cleanSpec)

/-- ITS FALSE NEIGHBOUR: 'it returns false'. Refute it at one input. -/
def cleanWrong : ChangeSpec := { name := "clean", fn := fun _ => fun
  | [d1, d2, d3] => { results := [.lit (.bool false)], args := [d1, d2, d3] }
  | _ => none }
def CleanWrongFalsely : Prop := cleanRow.holds Try.pinned (OpenSpec.ofChange cleanWrong)

/-- 'tenantskeep.Stored': WHATEVER THE INPUT: true; the input reads as it did. -/
def storedSpec : ChangeSpec := { name := "stored", fn := fun _ => fun
  | [d1, d2, d3, d4, d5, d6] => { results := [.lit (.bool true)], args := [d1, d2, d3, d4, d5, d6] }
  | _ => none }
def storedRow : OpenClaim := { program := "ytbedkfgdhaajaaa", sum := "513f5aac1914e70477e63e2b07c66de1252644e078d7189aaa6d20b87813bad9", func := "tenants/tenantskeep.Stored", spec := "stored", apart := false }
def StoredSaid : Prop := storedRow.holds Try.pinned (OpenSpec.ofChange storedSpec)

/-- ITS FALSE NEIGHBOUR: 'it returns false'. Refute it at one input. -/
def storedWrong : ChangeSpec := { name := "stored", fn := fun _ => fun
  | [d1, d2, d3, d4, d5, d6] => { results := [.lit (.bool false)], args := [d1, d2, d3, d4, d5, d6] }
  | _ => none }
def StoredWrongFalsely : Prop := storedRow.holds Try.pinned (OpenSpec.ofChange storedWrong)

/-- 'tenantskeep.Quotas': WHATEVER THE INPUT: true; the input reads as it did. -/
def quotasSpec : ChangeSpec := { name := "quotas", fn := fun _ => fun
  | [d] => { results := [.lit (.bool true)], args := [d] }
  | _ => none }
def quotasRow : OpenClaim := { program := "ytbedkfgdhaajaaa", sum := "513f5aac1914e70477e63e2b07c66de1252644e078d7189aaa6d20b87813bad9", func := "tenants/tenantskeep.Quotas", spec := "quotas", apart := false }
def QuotasSaid : Prop := quotasRow.holds Try.pinned (OpenSpec.ofChange quotasSpec)

/-- ITS FALSE NEIGHBOUR: 'it returns false'. Refute it at one input. -/
def quotasWrong : ChangeSpec := { name := "quotas", fn := fun _ => fun
  | [d] => { results := [.lit (.bool false)], args := [d] }
  | _ => none }
def QuotasWrongFalsely : Prop := quotasRow.holds Try.pinned (OpenSpec.ofChange quotasWrong)

/-- 'tenantslaw.Opens': WHATEVER THE INPUT: true; the input reads as it did. -/
def opensSpec : ChangeSpec := { name := "opens", fn := fun _ => fun
  | [d] => { results := [.lit (.bool true)], args := [d] }
  | _ => none }
def opensRow : OpenClaim := { program := "ytbedkfgdhaajaaa", sum := "513f5aac1914e70477e63e2b07c66de1252644e078d7189aaa6d20b87813bad9", func := "tenants/tenantslaw.Opens", spec := "opens", apart := false }
def OpensSaid : Prop := opensRow.holds Try.pinned (OpenSpec.ofChange opensSpec)

/-- ITS FALSE NEIGHBOUR: 'it returns false'. Refute it at one input. -/
def opensWrong : ChangeSpec := { name := "opens", fn := fun _ => fun
  | [d] => { results := [.lit (.bool false)], args := [d] }
  | _ => none }
def OpensWrongFalsely : Prop := opensRow.holds Try.pinned (OpenSpec.ofChange opensWrong)

/-- 'tenantslaw.Sends': WHATEVER THE INPUT: true; the input reads as it did. -/
def sendsSpec : ChangeSpec := { name := "sends", fn := fun _ => fun
  | [d] => { results := [.lit (.bool true)], args := [d] }
  | _ => none }
def sendsRow : OpenClaim := { program := "ytbedkfgdhaajaaa", sum := "513f5aac1914e70477e63e2b07c66de1252644e078d7189aaa6d20b87813bad9", func := "tenants/tenantslaw.Sends", spec := "sends", apart := false }
def SendsSaid : Prop := sendsRow.holds Try.pinned (OpenSpec.ofChange sendsSpec)

/-- ITS FALSE NEIGHBOUR: 'it returns false'. Refute it at one input. -/
def sendsWrong : ChangeSpec := { name := "sends", fn := fun _ => fun
  | [d] => { results := [.lit (.bool false)], args := [d] }
  | _ => none }
def SendsWrongFalsely : Prop := sendsRow.holds Try.pinned (OpenSpec.ofChange sendsWrong)

/-- 'tenantslaw.Runs': WHATEVER THE INPUT: true; the input reads as it did. -/
def runsSpec : ChangeSpec := { name := "runs", fn := fun _ => fun
  | [d] => { results := [.lit (.bool true)], args := [d] }
  | _ => none }
def runsRow : OpenClaim := { program := "ytbedkfgdhaajaaa", sum := "513f5aac1914e70477e63e2b07c66de1252644e078d7189aaa6d20b87813bad9", func := "tenants/tenantslaw.Runs", spec := "runs", apart := false }
def RunsSaid : Prop := runsRow.holds Try.pinned (OpenSpec.ofChange runsSpec)

/-- ITS FALSE NEIGHBOUR: 'it returns false'. Refute it at one input. -/
def runsWrong : ChangeSpec := { name := "runs", fn := fun _ => fun
  | [d] => { results := [.lit (.bool false)], args := [d] }
  | _ => none }
def RunsWrongFalsely : Prop := runsRow.holds Try.pinned (OpenSpec.ofChange runsWrong)

/-- 'tenantslaw.Takes': WHATEVER THE INPUT: true; the input reads as it did. -/
def takesSpec : ChangeSpec := { name := "takes", fn := fun _ => fun
  | [d] => { results := [.lit (.bool true)], args := [d] }
  | _ => none }
def takesRow : OpenClaim := { program := "ytbedkfgdhaajaaa", sum := "513f5aac1914e70477e63e2b07c66de1252644e078d7189aaa6d20b87813bad9", func := "tenants/tenantslaw.Takes", spec := "takes", apart := false }
def TakesSaid : Prop := takesRow.holds Try.pinned (OpenSpec.ofChange takesSpec)

/-- ITS FALSE NEIGHBOUR: 'it returns false'. Refute it at one input. -/
def takesWrong : ChangeSpec := { name := "takes", fn := fun _ => fun
  | [d] => { results := [.lit (.bool false)], args := [d] }
  | _ => none }
def TakesWrongFalsely : Prop := takesRow.holds Try.pinned (OpenSpec.ofChange takesWrong)

/- THE SECOND FORM. 'bulk': how many values and letters a reading holds, each counted each time it is reached (what is shared counts as often as it is met; a slice's spare places count too). A statement '..UptoSaid' is the law's where the arguments, and the package variables that the reading takes, are together of bulk at most 1048576: NARROWER than '..Said'. Prove '..Said' where nothing that the law and all that it calls make is longer than what came in: it says more and counts as full. Else prove '..UptoSaid'. A law counts once. -/
mutual
def uptoBulk {H : Type} : DataW H → Nat
  | .lit (.string bytes) => bytes.length + 1
  | .lit _ => 1
  | .nil => 1
  | .ptr d => uptoBulk d + 1
  | .slice elems spare => uptoBulkAll elems + uptoBulkAll spare + 1
  | .agg parts => uptoBulkAll parts + 1
  | .iface _ d => uptoBulk d + 1
  | .map entries => uptoBulkEntries entries + 1
  | .held _ => 1
def uptoBulkAll {H : Type} : List (DataW H) → Nat
  | [] => 0
  | d :: r => uptoBulk d + uptoBulkAll r
def uptoBulkEntries {H : Type} : List (Lit × DataW H) → Nat
  | [] => 0
  | x :: r => uptoBulkEntry x + uptoBulkEntries r
def uptoBulkEntry {H : Type} : Lit × DataW H → Nat
  | (.string bytes, d) => bytes.length + uptoBulk d + 1
  | (_, d) => uptoBulk d + 1
 end
def uptoSmall : (H : Type) → List (DataW H) → Bool := fun _ ds => decide (uptoBulkAll ds ≤ 1048576)
def OpenSpec.upto (s : _root_.Go.ChangeSpec) : _root_.Go.OpenSpec := { _root_.Go.OpenSpec.ofChange s with cond := some uptoSmall }

/-- 'tenantslaw.Covers', WHERE WHAT IT READS IS OF BULK AT MOST 1048576: true; the input reads as it did. -/
def coversUptoRow : OpenClaim := { program := "ytbedkfgdhaajaaa", sum := "513f5aac1914e70477e63e2b07c66de1252644e078d7189aaa6d20b87813bad9", func := "tenants/tenantslaw.Covers", spec := "covers", apart := false, narrowed := true }
def CoversUptoSaid : Prop := coversUptoRow.holds Try.pinned (OpenSpec.upto coversSpec)

/-- 'tenantskeep.Shared', WHERE WHAT IT READS IS OF BULK AT MOST 1048576: true; the input reads as it did. -/
def sharedUptoRow : OpenClaim := { program := "ytbedkfgdhaajaaa", sum := "513f5aac1914e70477e63e2b07c66de1252644e078d7189aaa6d20b87813bad9", func := "tenants/tenantskeep.Shared", spec := "shared", apart := false, narrowed := true }
def SharedUptoSaid : Prop := sharedUptoRow.holds Try.pinned (OpenSpec.upto sharedSpec)

/-- 'tenantslaw.Verifies', WHERE WHAT IT READS IS OF BULK AT MOST 1048576: true; the input reads as it did. -/
def verifiesUptoRow : OpenClaim := { program := "ytbedkfgdhaajaaa", sum := "513f5aac1914e70477e63e2b07c66de1252644e078d7189aaa6d20b87813bad9", func := "tenants/tenantslaw.Verifies", spec := "verifies", apart := false, narrowed := true }
def VerifiesUptoSaid : Prop := verifiesUptoRow.holds Try.pinned (OpenSpec.upto verifiesSpec)

/-- 'tenantslaw.Shades', WHERE WHAT IT READS IS OF BULK AT MOST 1048576: true; the input reads as it did. -/
def shadesUptoRow : OpenClaim := { program := "ytbedkfgdhaajaaa", sum := "513f5aac1914e70477e63e2b07c66de1252644e078d7189aaa6d20b87813bad9", func := "tenants/tenantslaw.Shades", spec := "shades", apart := false, narrowed := true }
def ShadesUptoSaid : Prop := shadesUptoRow.holds Try.pinned (OpenSpec.upto shadesSpec)

/-- 'tenantslaw.Plain', WHERE WHAT IT READS IS OF BULK AT MOST 1048576: true; the input reads as it did. -/
def plainUptoRow : OpenClaim := { program := "ytbedkfgdhaajaaa", sum := "513f5aac1914e70477e63e2b07c66de1252644e078d7189aaa6d20b87813bad9", func := "tenants/tenantslaw.Plain", spec := "plain", apart := false, narrowed := true }
def PlainUptoSaid : Prop := plainUptoRow.holds Try.pinned (OpenSpec.upto plainSpec)

/-- 'tenantskeep.Clean', WHERE WHAT IT READS IS OF BULK AT MOST 1048576: true; the input reads as it did. -/
def cleanUptoRow : OpenClaim := { program := "ytbedkfgdhaajaaa", sum := "513f5aac1914e70477e63e2b07c66de1252644e078d7189aaa6d20b87813bad9", func := "tenants/tenantskeep.Clean", spec := "clean", apart := false, narrowed := true }
def CleanUptoSaid : Prop := cleanUptoRow.holds Try.pinned (OpenSpec.upto cleanSpec)

/-- 'tenantskeep.Stored', WHERE WHAT IT READS IS OF BULK AT MOST 1048576: true; the input reads as it did. -/
def storedUptoRow : OpenClaim := { program := "ytbedkfgdhaajaaa", sum := "513f5aac1914e70477e63e2b07c66de1252644e078d7189aaa6d20b87813bad9", func := "tenants/tenantskeep.Stored", spec := "stored", apart := false, narrowed := true }
def StoredUptoSaid : Prop := storedUptoRow.holds Try.pinned (OpenSpec.upto storedSpec)

/-- 'tenantskeep.Quotas', WHERE WHAT IT READS IS OF BULK AT MOST 1048576: true; the input reads as it did. -/
def quotasUptoRow : OpenClaim := { program := "ytbedkfgdhaajaaa", sum := "513f5aac1914e70477e63e2b07c66de1252644e078d7189aaa6d20b87813bad9", func := "tenants/tenantskeep.Quotas", spec := "quotas", apart := false, narrowed := true }
def QuotasUptoSaid : Prop := quotasUptoRow.holds Try.pinned (OpenSpec.upto quotasSpec)

/-- 'tenantslaw.Opens', WHERE WHAT IT READS IS OF BULK AT MOST 1048576: true; the input reads as it did. -/
def opensUptoRow : OpenClaim := { program := "ytbedkfgdhaajaaa", sum := "513f5aac1914e70477e63e2b07c66de1252644e078d7189aaa6d20b87813bad9", func := "tenants/tenantslaw.Opens", spec := "opens", apart := false, narrowed := true }
def OpensUptoSaid : Prop := opensUptoRow.holds Try.pinned (OpenSpec.upto opensSpec)

/-- 'tenantslaw.Sends', WHERE WHAT IT READS IS OF BULK AT MOST 1048576: true; the input reads as it did. -/
def sendsUptoRow : OpenClaim := { program := "ytbedkfgdhaajaaa", sum := "513f5aac1914e70477e63e2b07c66de1252644e078d7189aaa6d20b87813bad9", func := "tenants/tenantslaw.Sends", spec := "sends", apart := false, narrowed := true }
def SendsUptoSaid : Prop := sendsUptoRow.holds Try.pinned (OpenSpec.upto sendsSpec)

/-- 'tenantslaw.Runs', WHERE WHAT IT READS IS OF BULK AT MOST 1048576: true; the input reads as it did. -/
def runsUptoRow : OpenClaim := { program := "ytbedkfgdhaajaaa", sum := "513f5aac1914e70477e63e2b07c66de1252644e078d7189aaa6d20b87813bad9", func := "tenants/tenantslaw.Runs", spec := "runs", apart := false, narrowed := true }
def RunsUptoSaid : Prop := runsUptoRow.holds Try.pinned (OpenSpec.upto runsSpec)

/-- 'tenantslaw.Takes', WHERE WHAT IT READS IS OF BULK AT MOST 1048576: true; the input reads as it did. -/
def takesUptoRow : OpenClaim := { program := "ytbedkfgdhaajaaa", sum := "513f5aac1914e70477e63e2b07c66de1252644e078d7189aaa6d20b87813bad9", func := "tenants/tenantslaw.Takes", spec := "takes", apart := false, narrowed := true }
def TakesUptoSaid : Prop := takesUptoRow.holds Try.pinned (OpenSpec.upto takesSpec)

end Rows
end Go.Proofs.Ytbedkfgdhaajaaa
