/-
  NARROWER THAN 'FOR EVERY INPUT', by the rows' own cells (each row's printed sentence says how): SessionSends: laid · SessionTakes: laid · SessionGoes: laid · SessionOnce: laid · SessionBent: laid · SessionFar: laid · SessionOther: laid · SessionAnswers: laid.
  DERIVED. THE GIVEN ROWS OF THIS SEAT. 8 by the template 'for every input the law returns true; each argument reads behind the call as it read before'; 0 by the template 'total and deterministic' (their statements: YtaoaebdjinlcnaaDoorTotals.lean).
  GIVEN WITH THE SEED: the statements are not yours to turn. If you find one false, say at which input.
  Laid BY PROGRAM, IN A SANDBOX (cutbox-rows.mjs): the forced cells as the released guide's own fill.sh prints them over the translation 2d50815da6d8c9cd… (all of the seat's roots in one cut). By AI agents, Wed Nov 11 2026. No macro, syntax, notation, axiom, sorry.
-/
import Derived.Test.YtaoaebdjinlcnaaDoorChecked
import GoSem.Claim
import GoSem.ClaimJoined
import GoSem.ClaimMapViews
import Derived.JoinedTies
import Derived.KernelRfl
namespace Go.Proofs.YtaoaebdjinlcnaaDoor
/- THE CELL 'sum', in the pinned program and in every row, IS THE sha256 OF THE DUMP (.gsa) THAT YtaoaebdjinlcnaaDoorProg.lean LOADS. Nothing in Lean hashes anything: it is a label: what it is worth is what the hold of that sum in a sandbox is worth. -/
noncomputable def Tryd.pinned : Pinned := { name := "ytaoaebdjinlcnaadoor", sum := "2d50815da6d8c9cd7877c0bc416491cba9359baa5516b49e1e8b16042661aeaf", checked := Tryd.checked }
namespace Rows
def none {H : Type} : Left H := { results := [], args := [] }

/- WHAT THE LISTED PACKAGE-LEVEL VARIABLES READ AS WHEN THE CALL BEGINS. Each datum BY PROGRAM (the guide's laid-datum.mjs) off the statement by which the dump's own 'gosem.cut.vars' lays the variable. In a bare row this is a premise. The card (YtaoaebdjinlcnaaDoorCards.lean) ties it to the program's text. -/
def laid_hibernacle_hash_eight {H : Type} : DataW H := .agg [.lit (.int .u32 1779033703), .lit (.int .u32 3144134277), .lit (.int .u32 1013904242), .lit (.int .u32 2773480762), .lit (.int .u32 1359893119), .lit (.int .u32 2600822924), .lit (.int .u32 528734635), .lit (.int .u32 1541459225)]
def laid_hibernacle_hash_rows {H : Type} : DataW H := .agg [.agg [.lit (.int .u8 0), .lit (.int .u8 1), .lit (.int .u8 2), .lit (.int .u8 3), .lit (.int .u8 4), .lit (.int .u8 5), .lit (.int .u8 6), .lit (.int .u8 7), .lit (.int .u8 8), .lit (.int .u8 9), .lit (.int .u8 10), .lit (.int .u8 11), .lit (.int .u8 12), .lit (.int .u8 13), .lit (.int .u8 14), .lit (.int .u8 15)], .agg [.lit (.int .u8 14), .lit (.int .u8 10), .lit (.int .u8 4), .lit (.int .u8 8), .lit (.int .u8 9), .lit (.int .u8 15), .lit (.int .u8 13), .lit (.int .u8 6), .lit (.int .u8 1), .lit (.int .u8 12), .lit (.int .u8 0), .lit (.int .u8 2), .lit (.int .u8 11), .lit (.int .u8 7), .lit (.int .u8 5), .lit (.int .u8 3)], .agg [.lit (.int .u8 11), .lit (.int .u8 8), .lit (.int .u8 12), .lit (.int .u8 0), .lit (.int .u8 5), .lit (.int .u8 2), .lit (.int .u8 15), .lit (.int .u8 13), .lit (.int .u8 10), .lit (.int .u8 14), .lit (.int .u8 3), .lit (.int .u8 6), .lit (.int .u8 7), .lit (.int .u8 1), .lit (.int .u8 9), .lit (.int .u8 4)], .agg [.lit (.int .u8 7), .lit (.int .u8 9), .lit (.int .u8 3), .lit (.int .u8 1), .lit (.int .u8 13), .lit (.int .u8 12), .lit (.int .u8 11), .lit (.int .u8 14), .lit (.int .u8 2), .lit (.int .u8 6), .lit (.int .u8 5), .lit (.int .u8 10), .lit (.int .u8 4), .lit (.int .u8 0), .lit (.int .u8 15), .lit (.int .u8 8)], .agg [.lit (.int .u8 9), .lit (.int .u8 0), .lit (.int .u8 5), .lit (.int .u8 7), .lit (.int .u8 2), .lit (.int .u8 4), .lit (.int .u8 10), .lit (.int .u8 15), .lit (.int .u8 14), .lit (.int .u8 1), .lit (.int .u8 11), .lit (.int .u8 12), .lit (.int .u8 6), .lit (.int .u8 8), .lit (.int .u8 3), .lit (.int .u8 13)], .agg [.lit (.int .u8 2), .lit (.int .u8 12), .lit (.int .u8 6), .lit (.int .u8 10), .lit (.int .u8 0), .lit (.int .u8 11), .lit (.int .u8 8), .lit (.int .u8 3), .lit (.int .u8 4), .lit (.int .u8 13), .lit (.int .u8 7), .lit (.int .u8 5), .lit (.int .u8 15), .lit (.int .u8 14), .lit (.int .u8 1), .lit (.int .u8 9)], .agg [.lit (.int .u8 12), .lit (.int .u8 5), .lit (.int .u8 1), .lit (.int .u8 15), .lit (.int .u8 14), .lit (.int .u8 13), .lit (.int .u8 4), .lit (.int .u8 10), .lit (.int .u8 0), .lit (.int .u8 7), .lit (.int .u8 6), .lit (.int .u8 3), .lit (.int .u8 9), .lit (.int .u8 2), .lit (.int .u8 8), .lit (.int .u8 11)], .agg [.lit (.int .u8 13), .lit (.int .u8 11), .lit (.int .u8 7), .lit (.int .u8 14), .lit (.int .u8 12), .lit (.int .u8 1), .lit (.int .u8 3), .lit (.int .u8 9), .lit (.int .u8 5), .lit (.int .u8 0), .lit (.int .u8 15), .lit (.int .u8 4), .lit (.int .u8 8), .lit (.int .u8 6), .lit (.int .u8 2), .lit (.int .u8 10)], .agg [.lit (.int .u8 6), .lit (.int .u8 15), .lit (.int .u8 14), .lit (.int .u8 9), .lit (.int .u8 11), .lit (.int .u8 3), .lit (.int .u8 0), .lit (.int .u8 8), .lit (.int .u8 12), .lit (.int .u8 2), .lit (.int .u8 13), .lit (.int .u8 7), .lit (.int .u8 1), .lit (.int .u8 4), .lit (.int .u8 10), .lit (.int .u8 5)], .agg [.lit (.int .u8 10), .lit (.int .u8 2), .lit (.int .u8 8), .lit (.int .u8 4), .lit (.int .u8 7), .lit (.int .u8 6), .lit (.int .u8 1), .lit (.int .u8 5), .lit (.int .u8 15), .lit (.int .u8 11), .lit (.int .u8 9), .lit (.int .u8 14), .lit (.int .u8 3), .lit (.int .u8 12), .lit (.int .u8 13), .lit (.int .u8 0)]]

/-- 'hibernaclelaw43.SessionSends': WHATEVER THE INPUT: true; the input reads as it did. -/
def sessionSendsSpec : ChangeSpec := { name := "sessionSends", fn := fun _ => fun
  | [d1, d2] => { results := [.lit (.bool true)], args := [d1, d2] }
  | _ => none }
def sessionSendsRow : OpenClaim := { program := "ytaoaebdjinlcnaadoor", sum := "2d50815da6d8c9cd7877c0bc416491cba9359baa5516b49e1e8b16042661aeaf", func := "hibernacle/hibernaclelaw43.SessionSends", spec := "sessionSends", inPlace := ["internal/abi.NoEscape", "internal/bytealg.MakeNoZero"], unfollowed := true, recurses := true, named := ["hibernacle/hash.eight", "hibernacle/hash.rows"], apart := false, laid := [("hibernacle/hash.eight", laid_hibernacle_hash_eight), ("hibernacle/hash.rows", laid_hibernacle_hash_rows)] }
def SessionSendsSaid : Prop := sessionSendsRow.holds Tryd.pinned (OpenSpec.ofChange sessionSendsSpec)

/-- ITS FALSE NEIGHBOUR: 'it returns false'. Refute it at one input. -/
def sessionSendsWrong : ChangeSpec := { name := "sessionSends", fn := fun _ => fun
  | [d1, d2] => { results := [.lit (.bool false)], args := [d1, d2] }
  | _ => none }
def SessionSendsWrongFalsely : Prop := sessionSendsRow.holds Tryd.pinned (OpenSpec.ofChange sessionSendsWrong)

/-- 'hibernaclelaw43.SessionTakes': WHATEVER THE INPUT: true; the input reads as it did. -/
def sessionTakesSpec : ChangeSpec := { name := "sessionTakes", fn := fun _ => fun
  | [d1, d2] => { results := [.lit (.bool true)], args := [d1, d2] }
  | _ => none }
def sessionTakesRow : OpenClaim := { program := "ytaoaebdjinlcnaadoor", sum := "2d50815da6d8c9cd7877c0bc416491cba9359baa5516b49e1e8b16042661aeaf", func := "hibernacle/hibernaclelaw43.SessionTakes", spec := "sessionTakes", inPlace := ["internal/abi.NoEscape", "internal/bytealg.MakeNoZero"], unfollowed := true, recurses := true, named := ["hibernacle/hash.eight", "hibernacle/hash.rows"], apart := false, laid := [("hibernacle/hash.eight", laid_hibernacle_hash_eight), ("hibernacle/hash.rows", laid_hibernacle_hash_rows)] }
def SessionTakesSaid : Prop := sessionTakesRow.holds Tryd.pinned (OpenSpec.ofChange sessionTakesSpec)

/-- ITS FALSE NEIGHBOUR: 'it returns false'. Refute it at one input. -/
def sessionTakesWrong : ChangeSpec := { name := "sessionTakes", fn := fun _ => fun
  | [d1, d2] => { results := [.lit (.bool false)], args := [d1, d2] }
  | _ => none }
def SessionTakesWrongFalsely : Prop := sessionTakesRow.holds Tryd.pinned (OpenSpec.ofChange sessionTakesWrong)

/-- 'hibernaclelaw43.SessionGoes': WHATEVER THE INPUT: true; the input reads as it did. -/
def sessionGoesSpec : ChangeSpec := { name := "sessionGoes", fn := fun _ => fun
  | [d1, d2, d3] => { results := [.lit (.bool true)], args := [d1, d2, d3] }
  | _ => none }
def sessionGoesRow : OpenClaim := { program := "ytaoaebdjinlcnaadoor", sum := "2d50815da6d8c9cd7877c0bc416491cba9359baa5516b49e1e8b16042661aeaf", func := "hibernacle/hibernaclelaw43.SessionGoes", spec := "sessionGoes", inPlace := ["internal/abi.NoEscape", "internal/bytealg.MakeNoZero"], unfollowed := true, recurses := true, named := ["hibernacle/hash.eight", "hibernacle/hash.rows"], apart := false, laid := [("hibernacle/hash.eight", laid_hibernacle_hash_eight), ("hibernacle/hash.rows", laid_hibernacle_hash_rows)] }
def SessionGoesSaid : Prop := sessionGoesRow.holds Tryd.pinned (OpenSpec.ofChange sessionGoesSpec)

/-- ITS FALSE NEIGHBOUR: 'it returns false'. Refute it at one input. -/
def sessionGoesWrong : ChangeSpec := { name := "sessionGoes", fn := fun _ => fun
  | [d1, d2, d3] => { results := [.lit (.bool false)], args := [d1, d2, d3] }
  | _ => none }
def SessionGoesWrongFalsely : Prop := sessionGoesRow.holds Tryd.pinned (OpenSpec.ofChange sessionGoesWrong)

/-- 'hibernaclelaw43.SessionOnce': WHATEVER THE INPUT: true; the input reads as it did. -/
def sessionOnceSpec : ChangeSpec := { name := "sessionOnce", fn := fun _ => fun
  | [d1, d2, d3] => { results := [.lit (.bool true)], args := [d1, d2, d3] }
  | _ => none }
def sessionOnceRow : OpenClaim := { program := "ytaoaebdjinlcnaadoor", sum := "2d50815da6d8c9cd7877c0bc416491cba9359baa5516b49e1e8b16042661aeaf", func := "hibernacle/hibernaclelaw43.SessionOnce", spec := "sessionOnce", inPlace := ["internal/abi.NoEscape", "internal/bytealg.MakeNoZero"], unfollowed := true, recurses := true, named := ["hibernacle/hash.eight", "hibernacle/hash.rows"], apart := false, laid := [("hibernacle/hash.eight", laid_hibernacle_hash_eight), ("hibernacle/hash.rows", laid_hibernacle_hash_rows)] }
def SessionOnceSaid : Prop := sessionOnceRow.holds Tryd.pinned (OpenSpec.ofChange sessionOnceSpec)

/-- ITS FALSE NEIGHBOUR: 'it returns false'. Refute it at one input. -/
def sessionOnceWrong : ChangeSpec := { name := "sessionOnce", fn := fun _ => fun
  | [d1, d2, d3] => { results := [.lit (.bool false)], args := [d1, d2, d3] }
  | _ => none }
def SessionOnceWrongFalsely : Prop := sessionOnceRow.holds Tryd.pinned (OpenSpec.ofChange sessionOnceWrong)

/-- 'hibernaclelaw43.SessionBent': WHATEVER THE INPUT: true; the input reads as it did. -/
def sessionBentSpec : ChangeSpec := { name := "sessionBent", fn := fun _ => fun
  | [d1, d2, d3] => { results := [.lit (.bool true)], args := [d1, d2, d3] }
  | _ => none }
def sessionBentRow : OpenClaim := { program := "ytaoaebdjinlcnaadoor", sum := "2d50815da6d8c9cd7877c0bc416491cba9359baa5516b49e1e8b16042661aeaf", func := "hibernacle/hibernaclelaw43.SessionBent", spec := "sessionBent", inPlace := ["internal/abi.NoEscape", "internal/bytealg.MakeNoZero"], unfollowed := true, recurses := true, named := ["hibernacle/hash.eight", "hibernacle/hash.rows"], apart := false, laid := [("hibernacle/hash.eight", laid_hibernacle_hash_eight), ("hibernacle/hash.rows", laid_hibernacle_hash_rows)] }
def SessionBentSaid : Prop := sessionBentRow.holds Tryd.pinned (OpenSpec.ofChange sessionBentSpec)

/-- ITS FALSE NEIGHBOUR: 'it returns false'. Refute it at one input. -/
def sessionBentWrong : ChangeSpec := { name := "sessionBent", fn := fun _ => fun
  | [d1, d2, d3] => { results := [.lit (.bool false)], args := [d1, d2, d3] }
  | _ => none }
def SessionBentWrongFalsely : Prop := sessionBentRow.holds Tryd.pinned (OpenSpec.ofChange sessionBentWrong)

/-- 'hibernaclelaw43.SessionFar': WHATEVER THE INPUT: true; the input reads as it did. -/
def sessionFarSpec : ChangeSpec := { name := "sessionFar", fn := fun _ => fun
  | [d1, d2] => { results := [.lit (.bool true)], args := [d1, d2] }
  | _ => none }
def sessionFarRow : OpenClaim := { program := "ytaoaebdjinlcnaadoor", sum := "2d50815da6d8c9cd7877c0bc416491cba9359baa5516b49e1e8b16042661aeaf", func := "hibernacle/hibernaclelaw43.SessionFar", spec := "sessionFar", inPlace := ["internal/abi.NoEscape", "internal/bytealg.MakeNoZero"], unfollowed := true, recurses := true, named := ["hibernacle/hash.eight", "hibernacle/hash.rows"], apart := false, laid := [("hibernacle/hash.eight", laid_hibernacle_hash_eight), ("hibernacle/hash.rows", laid_hibernacle_hash_rows)] }
def SessionFarSaid : Prop := sessionFarRow.holds Tryd.pinned (OpenSpec.ofChange sessionFarSpec)

/-- ITS FALSE NEIGHBOUR: 'it returns false'. Refute it at one input. -/
def sessionFarWrong : ChangeSpec := { name := "sessionFar", fn := fun _ => fun
  | [d1, d2] => { results := [.lit (.bool false)], args := [d1, d2] }
  | _ => none }
def SessionFarWrongFalsely : Prop := sessionFarRow.holds Tryd.pinned (OpenSpec.ofChange sessionFarWrong)

/-- 'hibernaclelaw43.SessionOther': WHATEVER THE INPUT: true; the input reads as it did. -/
def sessionOtherSpec : ChangeSpec := { name := "sessionOther", fn := fun _ => fun
  | [d1, d2, d3] => { results := [.lit (.bool true)], args := [d1, d2, d3] }
  | _ => none }
def sessionOtherRow : OpenClaim := { program := "ytaoaebdjinlcnaadoor", sum := "2d50815da6d8c9cd7877c0bc416491cba9359baa5516b49e1e8b16042661aeaf", func := "hibernacle/hibernaclelaw43.SessionOther", spec := "sessionOther", inPlace := ["internal/abi.NoEscape", "internal/bytealg.MakeNoZero"], unfollowed := true, recurses := true, named := ["hibernacle/hash.eight", "hibernacle/hash.rows"], apart := false, laid := [("hibernacle/hash.eight", laid_hibernacle_hash_eight), ("hibernacle/hash.rows", laid_hibernacle_hash_rows)] }
def SessionOtherSaid : Prop := sessionOtherRow.holds Tryd.pinned (OpenSpec.ofChange sessionOtherSpec)

/-- ITS FALSE NEIGHBOUR: 'it returns false'. Refute it at one input. -/
def sessionOtherWrong : ChangeSpec := { name := "sessionOther", fn := fun _ => fun
  | [d1, d2, d3] => { results := [.lit (.bool false)], args := [d1, d2, d3] }
  | _ => none }
def SessionOtherWrongFalsely : Prop := sessionOtherRow.holds Tryd.pinned (OpenSpec.ofChange sessionOtherWrong)

/-- 'hibernaclelaw43.SessionAnswers': WHATEVER THE INPUT: true; the input reads as it did. -/
def sessionAnswersSpec : ChangeSpec := { name := "sessionAnswers", fn := fun _ => fun
  | [d1, d2, d3] => { results := [.lit (.bool true)], args := [d1, d2, d3] }
  | _ => none }
def sessionAnswersRow : OpenClaim := { program := "ytaoaebdjinlcnaadoor", sum := "2d50815da6d8c9cd7877c0bc416491cba9359baa5516b49e1e8b16042661aeaf", func := "hibernacle/hibernaclelaw43.SessionAnswers", spec := "sessionAnswers", inPlace := ["internal/abi.NoEscape", "internal/bytealg.MakeNoZero"], unfollowed := true, recurses := true, named := ["hibernacle/hash.eight", "hibernacle/hash.rows"], apart := false, laid := [("hibernacle/hash.eight", laid_hibernacle_hash_eight), ("hibernacle/hash.rows", laid_hibernacle_hash_rows)] }
def SessionAnswersSaid : Prop := sessionAnswersRow.holds Tryd.pinned (OpenSpec.ofChange sessionAnswersSpec)

/-- ITS FALSE NEIGHBOUR: 'it returns false'. Refute it at one input. -/
def sessionAnswersWrong : ChangeSpec := { name := "sessionAnswers", fn := fun _ => fun
  | [d1, d2, d3] => { results := [.lit (.bool false)], args := [d1, d2, d3] }
  | _ => none }
def SessionAnswersWrongFalsely : Prop := sessionAnswersRow.holds Tryd.pinned (OpenSpec.ofChange sessionAnswersWrong)

/- THE SECOND FORM. 'bulk': how many values and letters a reading holds, each counted each time it is reached (what is shared counts as often as it is met; a slice's spare places count too). A statement '..UptoSaid' is the law's where the arguments, and the package variables that the reading takes, are together of bulk at most 1048576: NARROWER than '..Said'. Prove '..Said' where nothing that the law and all that it calls make is longer than what came in: it says more and counts as full. Else prove '..UptoSaid'. A law counts once. -/
mutual
def uptoBulk {H : Type} : DataW H → Nat
  | .lit (.string bytes) => bytes.length + 1
  | .lit _ => 1
  | .nil => 1
  | .ptr d => uptoBulk d + 1
  | .slice elems spare => uptoBulkAll elems + uptoBulkAll spare + 1
  | .agg parts => uptoBulkAll parts + 1
  | .iface _ d => uptoBulk d + 1
  | .map entries => uptoBulkEntries entries + 1
  | .held _ => 1
def uptoBulkAll {H : Type} : List (DataW H) → Nat
  | [] => 0
  | d :: r => uptoBulk d + uptoBulkAll r
def uptoBulkEntries {H : Type} : List (Lit × DataW H) → Nat
  | [] => 0
  | x :: r => uptoBulkEntry x + uptoBulkEntries r
def uptoBulkEntry {H : Type} : Lit × DataW H → Nat
  | (.string bytes, d) => bytes.length + uptoBulk d + 1
  | (_, d) => uptoBulk d + 1
 end
def uptoSmall : (H : Type) → List (DataW H) → Bool := fun _ ds => decide (uptoBulkAll ds ≤ 1048576)
def OpenSpec.upto (s : _root_.Go.ChangeSpec) : _root_.Go.OpenSpec := { _root_.Go.OpenSpec.ofChange s with cond := some uptoSmall }

/-- 'hibernaclelaw43.SessionSends', WHERE WHAT IT READS IS OF BULK AT MOST 1048576: true; the input reads as it did. -/
def sessionSendsUptoRow : OpenClaim := { program := "ytaoaebdjinlcnaadoor", sum := "2d50815da6d8c9cd7877c0bc416491cba9359baa5516b49e1e8b16042661aeaf", func := "hibernacle/hibernaclelaw43.SessionSends", spec := "sessionSends", inPlace := ["internal/abi.NoEscape", "internal/bytealg.MakeNoZero"], unfollowed := true, recurses := true, named := ["hibernacle/hash.eight", "hibernacle/hash.rows"], apart := false, laid := [("hibernacle/hash.eight", laid_hibernacle_hash_eight), ("hibernacle/hash.rows", laid_hibernacle_hash_rows)], narrowed := true }
def SessionSendsUptoSaid : Prop := sessionSendsUptoRow.holds Tryd.pinned (OpenSpec.upto sessionSendsSpec)

/-- 'hibernaclelaw43.SessionTakes', WHERE WHAT IT READS IS OF BULK AT MOST 1048576: true; the input reads as it did. -/
def sessionTakesUptoRow : OpenClaim := { program := "ytaoaebdjinlcnaadoor", sum := "2d50815da6d8c9cd7877c0bc416491cba9359baa5516b49e1e8b16042661aeaf", func := "hibernacle/hibernaclelaw43.SessionTakes", spec := "sessionTakes", inPlace := ["internal/abi.NoEscape", "internal/bytealg.MakeNoZero"], unfollowed := true, recurses := true, named := ["hibernacle/hash.eight", "hibernacle/hash.rows"], apart := false, laid := [("hibernacle/hash.eight", laid_hibernacle_hash_eight), ("hibernacle/hash.rows", laid_hibernacle_hash_rows)], narrowed := true }
def SessionTakesUptoSaid : Prop := sessionTakesUptoRow.holds Tryd.pinned (OpenSpec.upto sessionTakesSpec)

/-- 'hibernaclelaw43.SessionGoes', WHERE WHAT IT READS IS OF BULK AT MOST 1048576: true; the input reads as it did. -/
def sessionGoesUptoRow : OpenClaim := { program := "ytaoaebdjinlcnaadoor", sum := "2d50815da6d8c9cd7877c0bc416491cba9359baa5516b49e1e8b16042661aeaf", func := "hibernacle/hibernaclelaw43.SessionGoes", spec := "sessionGoes", inPlace := ["internal/abi.NoEscape", "internal/bytealg.MakeNoZero"], unfollowed := true, recurses := true, named := ["hibernacle/hash.eight", "hibernacle/hash.rows"], apart := false, laid := [("hibernacle/hash.eight", laid_hibernacle_hash_eight), ("hibernacle/hash.rows", laid_hibernacle_hash_rows)], narrowed := true }
def SessionGoesUptoSaid : Prop := sessionGoesUptoRow.holds Tryd.pinned (OpenSpec.upto sessionGoesSpec)

/-- 'hibernaclelaw43.SessionOnce', WHERE WHAT IT READS IS OF BULK AT MOST 1048576: true; the input reads as it did. -/
def sessionOnceUptoRow : OpenClaim := { program := "ytaoaebdjinlcnaadoor", sum := "2d50815da6d8c9cd7877c0bc416491cba9359baa5516b49e1e8b16042661aeaf", func := "hibernacle/hibernaclelaw43.SessionOnce", spec := "sessionOnce", inPlace := ["internal/abi.NoEscape", "internal/bytealg.MakeNoZero"], unfollowed := true, recurses := true, named := ["hibernacle/hash.eight", "hibernacle/hash.rows"], apart := false, laid := [("hibernacle/hash.eight", laid_hibernacle_hash_eight), ("hibernacle/hash.rows", laid_hibernacle_hash_rows)], narrowed := true }
def SessionOnceUptoSaid : Prop := sessionOnceUptoRow.holds Tryd.pinned (OpenSpec.upto sessionOnceSpec)

/-- 'hibernaclelaw43.SessionBent', WHERE WHAT IT READS IS OF BULK AT MOST 1048576: true; the input reads as it did. -/
def sessionBentUptoRow : OpenClaim := { program := "ytaoaebdjinlcnaadoor", sum := "2d50815da6d8c9cd7877c0bc416491cba9359baa5516b49e1e8b16042661aeaf", func := "hibernacle/hibernaclelaw43.SessionBent", spec := "sessionBent", inPlace := ["internal/abi.NoEscape", "internal/bytealg.MakeNoZero"], unfollowed := true, recurses := true, named := ["hibernacle/hash.eight", "hibernacle/hash.rows"], apart := false, laid := [("hibernacle/hash.eight", laid_hibernacle_hash_eight), ("hibernacle/hash.rows", laid_hibernacle_hash_rows)], narrowed := true }
def SessionBentUptoSaid : Prop := sessionBentUptoRow.holds Tryd.pinned (OpenSpec.upto sessionBentSpec)

/-- 'hibernaclelaw43.SessionFar', WHERE WHAT IT READS IS OF BULK AT MOST 1048576: true; the input reads as it did. -/
def sessionFarUptoRow : OpenClaim := { program := "ytaoaebdjinlcnaadoor", sum := "2d50815da6d8c9cd7877c0bc416491cba9359baa5516b49e1e8b16042661aeaf", func := "hibernacle/hibernaclelaw43.SessionFar", spec := "sessionFar", inPlace := ["internal/abi.NoEscape", "internal/bytealg.MakeNoZero"], unfollowed := true, recurses := true, named := ["hibernacle/hash.eight", "hibernacle/hash.rows"], apart := false, laid := [("hibernacle/hash.eight", laid_hibernacle_hash_eight), ("hibernacle/hash.rows", laid_hibernacle_hash_rows)], narrowed := true }
def SessionFarUptoSaid : Prop := sessionFarUptoRow.holds Tryd.pinned (OpenSpec.upto sessionFarSpec)

/-- 'hibernaclelaw43.SessionOther', WHERE WHAT IT READS IS OF BULK AT MOST 1048576: true; the input reads as it did. -/
def sessionOtherUptoRow : OpenClaim := { program := "ytaoaebdjinlcnaadoor", sum := "2d50815da6d8c9cd7877c0bc416491cba9359baa5516b49e1e8b16042661aeaf", func := "hibernacle/hibernaclelaw43.SessionOther", spec := "sessionOther", inPlace := ["internal/abi.NoEscape", "internal/bytealg.MakeNoZero"], unfollowed := true, recurses := true, named := ["hibernacle/hash.eight", "hibernacle/hash.rows"], apart := false, laid := [("hibernacle/hash.eight", laid_hibernacle_hash_eight), ("hibernacle/hash.rows", laid_hibernacle_hash_rows)], narrowed := true }
def SessionOtherUptoSaid : Prop := sessionOtherUptoRow.holds Tryd.pinned (OpenSpec.upto sessionOtherSpec)

/-- 'hibernaclelaw43.SessionAnswers', WHERE WHAT IT READS IS OF BULK AT MOST 1048576: true; the input reads as it did. -/
def sessionAnswersUptoRow : OpenClaim := { program := "ytaoaebdjinlcnaadoor", sum := "2d50815da6d8c9cd7877c0bc416491cba9359baa5516b49e1e8b16042661aeaf", func := "hibernacle/hibernaclelaw43.SessionAnswers", spec := "sessionAnswers", inPlace := ["internal/abi.NoEscape", "internal/bytealg.MakeNoZero"], unfollowed := true, recurses := true, named := ["hibernacle/hash.eight", "hibernacle/hash.rows"], apart := false, laid := [("hibernacle/hash.eight", laid_hibernacle_hash_eight), ("hibernacle/hash.rows", laid_hibernacle_hash_rows)], narrowed := true }
def SessionAnswersUptoSaid : Prop := sessionAnswersUptoRow.holds Tryd.pinned (OpenSpec.upto sessionAnswersSpec)

end Rows
end Go.Proofs.YtaoaebdjinlcnaaDoor
