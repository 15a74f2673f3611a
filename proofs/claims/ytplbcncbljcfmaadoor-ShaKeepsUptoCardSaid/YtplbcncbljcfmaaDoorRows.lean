/-
  NARROWER THAN 'FOR EVERY INPUT', by the rows' own cells (each row's printed sentence says how): ShaSums: laid · ShaTexts: laid · ShaBack: laid · ShaShort: laid · ShaKeeps: laid · PathLooks: laid · PathLists: laid · PathOrder: laid · PathParts: laid · PathClash: laid · PathSorted: laid · GlobMatches: laid.
  DERIVED. THE GIVEN ROWS OF THIS SEAT. 12 by the template 'for every input the law returns true; each argument reads behind the call as it read before'; 0 by the template 'total and deterministic' (their statements: YtplbcncbljcfmaaDoorTotals.lean).
  GIVEN WITH THE SEED: the statements are not yours to turn. If you find one false, say at which input.
  Laid BY PROGRAM, IN A SANDBOX (cutbox-rows.mjs): the forced cells as the released guide's own fill.sh prints them over the translation 7a8cc38453a1ac5b… (all of the seat's roots in one cut). By AI agents, Wed Nov 11 2026. No macro, syntax, notation, axiom, sorry.
-/
import Derived.Test.YtplbcncbljcfmaaDoorChecked
import GoSem.PinnedTables
import GoSem.Claim
import GoSem.ClaimJoined
import GoSem.ClaimMapViews
import Derived.JoinedTies
import Derived.KernelRfl
namespace Go.Proofs.YtplbcncbljcfmaaDoor
/- THE CELL 'sum', in the pinned program and in every row, IS THE sha256 OF THE DUMP (.gsa) THAT YtplbcncbljcfmaaDoorProg.lean LOADS. Nothing in Lean hashes anything: it is a label: what it is worth is what the hold of that sum in a sandbox is worth. -/
noncomputable def Tryd.pinned : Pinned := { name := "ytplbcncbljcfmaadoor", sum := "7a8cc38453a1ac5b597c92d34e8b55e01cef30fe817bb9fb86bf3b2ef4506a6e", checked := Tryd.checked }
namespace Rows
def none {H : Type} : Left H := { results := [], args := [] }

/- WHAT THE LISTED PACKAGE-LEVEL VARIABLES READ AS WHEN THE CALL BEGINS. Each datum BY PROGRAM (the guide's laid-datum.mjs) off the statement by which the dump's own 'gosem.cut.vars' lays the variable. In a bare row this is a premise. The card (YtplbcncbljcfmaaDoorCards.lean) ties it to the program's text. -/
def laid_towline_sha_first {H : Type} : DataW H := .agg [.lit (.int .u32 1779033703), .lit (.int .u32 3144134277), .lit (.int .u32 1013904242), .lit (.int .u32 2773480762), .lit (.int .u32 1359893119), .lit (.int .u32 2600822924), .lit (.int .u32 528734635), .lit (.int .u32 1541459225)]
def laid_towline_sha_rounds {H : Type} : DataW H := .agg [.lit (.int .u32 1116352408), .lit (.int .u32 1899447441), .lit (.int .u32 3049323471), .lit (.int .u32 3921009573), .lit (.int .u32 961987163), .lit (.int .u32 1508970993), .lit (.int .u32 2453635748), .lit (.int .u32 2870763221), .lit (.int .u32 3624381080), .lit (.int .u32 310598401), .lit (.int .u32 607225278), .lit (.int .u32 1426881987), .lit (.int .u32 1925078388), .lit (.int .u32 2162078206), .lit (.int .u32 2614888103), .lit (.int .u32 3248222580), .lit (.int .u32 3835390401), .lit (.int .u32 4022224774), .lit (.int .u32 264347078), .lit (.int .u32 604807628), .lit (.int .u32 770255983), .lit (.int .u32 1249150122), .lit (.int .u32 1555081692), .lit (.int .u32 1996064986), .lit (.int .u32 2554220882), .lit (.int .u32 2821834349), .lit (.int .u32 2952996808), .lit (.int .u32 3210313671), .lit (.int .u32 3336571891), .lit (.int .u32 3584528711), .lit (.int .u32 113926993), .lit (.int .u32 338241895), .lit (.int .u32 666307205), .lit (.int .u32 773529912), .lit (.int .u32 1294757372), .lit (.int .u32 1396182291), .lit (.int .u32 1695183700), .lit (.int .u32 1986661051), .lit (.int .u32 2177026350), .lit (.int .u32 2456956037), .lit (.int .u32 2730485921), .lit (.int .u32 2820302411), .lit (.int .u32 3259730800), .lit (.int .u32 3345764771), .lit (.int .u32 3516065817), .lit (.int .u32 3600352804), .lit (.int .u32 4094571909), .lit (.int .u32 275423344), .lit (.int .u32 430227734), .lit (.int .u32 506948616), .lit (.int .u32 659060556), .lit (.int .u32 883997877), .lit (.int .u32 958139571), .lit (.int .u32 1322822218), .lit (.int .u32 1537002063), .lit (.int .u32 1747873779), .lit (.int .u32 1955562222), .lit (.int .u32 2024104815), .lit (.int .u32 2227730452), .lit (.int .u32 2361852424), .lit (.int .u32 2428436474), .lit (.int .u32 2756734187), .lit (.int .u32 3204031479), .lit (.int .u32 3329325298)]
def laid_unicode_utf8_acceptRanges {H : Type} : DataW H := .agg [.agg [.lit (.int .u8 128), .lit (.int .u8 191)], .agg [.lit (.int .u8 160), .lit (.int .u8 191)], .agg [.lit (.int .u8 128), .lit (.int .u8 159)], .agg [.lit (.int .u8 144), .lit (.int .u8 191)], .agg [.lit (.int .u8 128), .lit (.int .u8 143)], .agg [.lit (.int .u8 0), .lit (.int .u8 0)], .agg [.lit (.int .u8 0), .lit (.int .u8 0)], .agg [.lit (.int .u8 0), .lit (.int .u8 0)], .agg [.lit (.int .u8 0), .lit (.int .u8 0)], .agg [.lit (.int .u8 0), .lit (.int .u8 0)], .agg [.lit (.int .u8 0), .lit (.int .u8 0)], .agg [.lit (.int .u8 0), .lit (.int .u8 0)], .agg [.lit (.int .u8 0), .lit (.int .u8 0)], .agg [.lit (.int .u8 0), .lit (.int .u8 0)], .agg [.lit (.int .u8 0), .lit (.int .u8 0)], .agg [.lit (.int .u8 0), .lit (.int .u8 0)]]
/-- One of Go's own tables, pinned by name: the form's constant. -/
def laid_unicode_utf8_first : DataW Unit := Go.Pinned.utf8First

/-- 'towlinelaw03.ShaSums': WHATEVER THE INPUT: true; the input reads as it did. -/
def shaSumsSpec : ChangeSpec := { name := "shaSums", fn := fun _ => fun
  | [d1, d2] => { results := [.lit (.bool true)], args := [d1, d2] }
  | _ => none }
def shaSumsRow : OpenClaim := { program := "ytplbcncbljcfmaadoor", sum := "7a8cc38453a1ac5b597c92d34e8b55e01cef30fe817bb9fb86bf3b2ef4506a6e", func := "towline/towlinelaw03.ShaSums", spec := "shaSums", inPlace := ["internal/bytealg.IndexByteString"], named := ["towline/sha.first", "towline/sha.rounds"], apart := false, laid := [("towline/sha.first", laid_towline_sha_first), ("towline/sha.rounds", laid_towline_sha_rounds)] }
def ShaSumsSaid : Prop := shaSumsRow.holds Tryd.pinned (OpenSpec.ofChange shaSumsSpec)

/-- ITS FALSE NEIGHBOUR: 'it returns false'. Refute it at one input. -/
def shaSumsWrong : ChangeSpec := { name := "shaSums", fn := fun _ => fun
  | [d1, d2] => { results := [.lit (.bool false)], args := [d1, d2] }
  | _ => none }
def ShaSumsWrongFalsely : Prop := shaSumsRow.holds Tryd.pinned (OpenSpec.ofChange shaSumsWrong)

/-- 'towlinelaw03.ShaTexts': WHATEVER THE INPUT: true; the input reads as it did. -/
def shaTextsSpec : ChangeSpec := { name := "shaTexts", fn := fun _ => fun
  | [d1, d2, d3] => { results := [.lit (.bool true)], args := [d1, d2, d3] }
  | _ => none }
def shaTextsRow : OpenClaim := { program := "ytplbcncbljcfmaadoor", sum := "7a8cc38453a1ac5b597c92d34e8b55e01cef30fe817bb9fb86bf3b2ef4506a6e", func := "towline/towlinelaw03.ShaTexts", spec := "shaTexts", inPlace := ["internal/bytealg.IndexByteString"], named := ["towline/sha.first", "towline/sha.rounds"], apart := false, laid := [("towline/sha.first", laid_towline_sha_first), ("towline/sha.rounds", laid_towline_sha_rounds)] }
def ShaTextsSaid : Prop := shaTextsRow.holds Tryd.pinned (OpenSpec.ofChange shaTextsSpec)

/-- ITS FALSE NEIGHBOUR: 'it returns false'. Refute it at one input. -/
def shaTextsWrong : ChangeSpec := { name := "shaTexts", fn := fun _ => fun
  | [d1, d2, d3] => { results := [.lit (.bool false)], args := [d1, d2, d3] }
  | _ => none }
def ShaTextsWrongFalsely : Prop := shaTextsRow.holds Tryd.pinned (OpenSpec.ofChange shaTextsWrong)

/-- 'towlinelaw03.ShaBack': WHATEVER THE INPUT: true; the input reads as it did. -/
def shaBackSpec : ChangeSpec := { name := "shaBack", fn := fun _ => fun
  | [d1, d2] => { results := [.lit (.bool true)], args := [d1, d2] }
  | _ => none }
def shaBackRow : OpenClaim := { program := "ytplbcncbljcfmaadoor", sum := "7a8cc38453a1ac5b597c92d34e8b55e01cef30fe817bb9fb86bf3b2ef4506a6e", func := "towline/towlinelaw03.ShaBack", spec := "shaBack", inPlace := ["internal/bytealg.IndexByteString"], named := ["towline/sha.first", "towline/sha.rounds"], apart := false, laid := [("towline/sha.first", laid_towline_sha_first), ("towline/sha.rounds", laid_towline_sha_rounds)] }
def ShaBackSaid : Prop := shaBackRow.holds Tryd.pinned (OpenSpec.ofChange shaBackSpec)

/-- ITS FALSE NEIGHBOUR: 'it returns false'. Refute it at one input. -/
def shaBackWrong : ChangeSpec := { name := "shaBack", fn := fun _ => fun
  | [d1, d2] => { results := [.lit (.bool false)], args := [d1, d2] }
  | _ => none }
def ShaBackWrongFalsely : Prop := shaBackRow.holds Tryd.pinned (OpenSpec.ofChange shaBackWrong)

/-- 'towlinelaw03.ShaShort': WHATEVER THE INPUT: true; the input reads as it did. -/
def shaShortSpec : ChangeSpec := { name := "shaShort", fn := fun _ => fun
  | [d1, d2] => { results := [.lit (.bool true)], args := [d1, d2] }
  | _ => none }
def shaShortRow : OpenClaim := { program := "ytplbcncbljcfmaadoor", sum := "7a8cc38453a1ac5b597c92d34e8b55e01cef30fe817bb9fb86bf3b2ef4506a6e", func := "towline/towlinelaw03.ShaShort", spec := "shaShort", inPlace := ["internal/bytealg.IndexByteString"], named := ["towline/sha.first", "towline/sha.rounds"], apart := false, laid := [("towline/sha.first", laid_towline_sha_first), ("towline/sha.rounds", laid_towline_sha_rounds)] }
def ShaShortSaid : Prop := shaShortRow.holds Tryd.pinned (OpenSpec.ofChange shaShortSpec)

/-- ITS FALSE NEIGHBOUR: 'it returns false'. Refute it at one input. -/
def shaShortWrong : ChangeSpec := { name := "shaShort", fn := fun _ => fun
  | [d1, d2] => { results := [.lit (.bool false)], args := [d1, d2] }
  | _ => none }
def ShaShortWrongFalsely : Prop := shaShortRow.holds Tryd.pinned (OpenSpec.ofChange shaShortWrong)

/-- 'towlinelaw03.ShaKeeps': WHATEVER THE INPUT: true; the input reads as it did. -/
def shaKeepsSpec : ChangeSpec := { name := "shaKeeps", fn := fun _ => fun
  | [d] => { results := [.lit (.bool true)], args := [d] }
  | _ => none }
def shaKeepsRow : OpenClaim := { program := "ytplbcncbljcfmaadoor", sum := "7a8cc38453a1ac5b597c92d34e8b55e01cef30fe817bb9fb86bf3b2ef4506a6e", func := "towline/towlinelaw03.ShaKeeps", spec := "shaKeeps", inPlace := ["internal/bytealg.IndexByteString"], named := ["towline/sha.first", "towline/sha.rounds"], apart := false, laid := [("towline/sha.first", laid_towline_sha_first), ("towline/sha.rounds", laid_towline_sha_rounds)] }
def ShaKeepsSaid : Prop := shaKeepsRow.holds Tryd.pinned (OpenSpec.ofChange shaKeepsSpec)

/-- ITS FALSE NEIGHBOUR: 'it returns false'. Refute it at one input. -/
def shaKeepsWrong : ChangeSpec := { name := "shaKeeps", fn := fun _ => fun
  | [d] => { results := [.lit (.bool false)], args := [d] }
  | _ => none }
def ShaKeepsWrongFalsely : Prop := shaKeepsRow.holds Tryd.pinned (OpenSpec.ofChange shaKeepsWrong)

/-- 'towlinelaw05.PathLooks': WHATEVER THE INPUT: true; the input reads as it did. -/
def pathLooksSpec : ChangeSpec := { name := "pathLooks", fn := fun _ => fun
  | [d1, d2, d3] => { results := [.lit (.bool true)], args := [d1, d2, d3] }
  | _ => none }
def pathLooksRow : OpenClaim := { program := "ytplbcncbljcfmaadoor", sum := "7a8cc38453a1ac5b597c92d34e8b55e01cef30fe817bb9fb86bf3b2ef4506a6e", func := "towline/towlinelaw05.PathLooks", spec := "pathLooks", inPlace := ["internal/bytealg.CountString", "internal/bytealg.IndexByteString", "internal/bytealg.IndexString", "internal/abi.NoEscape", "internal/bytealg.MakeNoZero"], unfollowed := true, recurses := true, named := ["unicode/utf8.first", "unicode/utf8.acceptRanges", "internal/bytealg.MaxLen"], apart := false, laid := [("unicode/utf8.acceptRanges", laid_unicode_utf8_acceptRanges), ("unicode/utf8.first", laid_unicode_utf8_first)] }
def PathLooksSaid : Prop := pathLooksRow.holds Tryd.pinned (OpenSpec.ofChange pathLooksSpec)

/-- ITS FALSE NEIGHBOUR: 'it returns false'. Refute it at one input. -/
def pathLooksWrong : ChangeSpec := { name := "pathLooks", fn := fun _ => fun
  | [d1, d2, d3] => { results := [.lit (.bool false)], args := [d1, d2, d3] }
  | _ => none }
def PathLooksWrongFalsely : Prop := pathLooksRow.holds Tryd.pinned (OpenSpec.ofChange pathLooksWrong)

/-- 'towlinelaw05.PathLists': WHATEVER THE INPUT: true; the input reads as it did. -/
def pathListsSpec : ChangeSpec := { name := "pathLists", fn := fun _ => fun
  | [d] => { results := [.lit (.bool true)], args := [d] }
  | _ => none }
def pathListsRow : OpenClaim := { program := "ytplbcncbljcfmaadoor", sum := "7a8cc38453a1ac5b597c92d34e8b55e01cef30fe817bb9fb86bf3b2ef4506a6e", func := "towline/towlinelaw05.PathLists", spec := "pathLists", inPlace := ["internal/bytealg.CountString", "internal/bytealg.IndexByteString", "internal/bytealg.IndexString"], unfollowed := true, recurses := true, named := ["unicode/utf8.first", "unicode/utf8.acceptRanges", "internal/bytealg.MaxLen"], apart := false, laid := [("unicode/utf8.acceptRanges", laid_unicode_utf8_acceptRanges), ("unicode/utf8.first", laid_unicode_utf8_first)] }
def PathListsSaid : Prop := pathListsRow.holds Tryd.pinned (OpenSpec.ofChange pathListsSpec)

/-- ITS FALSE NEIGHBOUR: 'it returns false'. Refute it at one input. -/
def pathListsWrong : ChangeSpec := { name := "pathLists", fn := fun _ => fun
  | [d] => { results := [.lit (.bool false)], args := [d] }
  | _ => none }
def PathListsWrongFalsely : Prop := pathListsRow.holds Tryd.pinned (OpenSpec.ofChange pathListsWrong)

/-- 'towlinelaw05.PathOrder': WHATEVER THE INPUT: true; the input reads as it did. -/
def pathOrderSpec : ChangeSpec := { name := "pathOrder", fn := fun _ => fun
  | [d1, d2, d3] => { results := [.lit (.bool true)], args := [d1, d2, d3] }
  | _ => none }
def pathOrderRow : OpenClaim := { program := "ytplbcncbljcfmaadoor", sum := "7a8cc38453a1ac5b597c92d34e8b55e01cef30fe817bb9fb86bf3b2ef4506a6e", func := "towline/towlinelaw05.PathOrder", spec := "pathOrder", inPlace := ["internal/bytealg.CountString", "internal/bytealg.IndexByteString", "internal/bytealg.IndexString"], unfollowed := true, recurses := true, named := ["unicode/utf8.first", "unicode/utf8.acceptRanges", "internal/bytealg.MaxLen"], apart := false, laid := [("unicode/utf8.acceptRanges", laid_unicode_utf8_acceptRanges), ("unicode/utf8.first", laid_unicode_utf8_first)] }
def PathOrderSaid : Prop := pathOrderRow.holds Tryd.pinned (OpenSpec.ofChange pathOrderSpec)

/-- ITS FALSE NEIGHBOUR: 'it returns false'. Refute it at one input. -/
def pathOrderWrong : ChangeSpec := { name := "pathOrder", fn := fun _ => fun
  | [d1, d2, d3] => { results := [.lit (.bool false)], args := [d1, d2, d3] }
  | _ => none }
def PathOrderWrongFalsely : Prop := pathOrderRow.holds Tryd.pinned (OpenSpec.ofChange pathOrderWrong)

/-- 'towlinelaw05.PathParts': WHATEVER THE INPUT: true; the input reads as it did. -/
def pathPartsSpec : ChangeSpec := { name := "pathParts", fn := fun _ => fun
  | [d1, d2] => { results := [.lit (.bool true)], args := [d1, d2] }
  | _ => none }
def pathPartsRow : OpenClaim := { program := "ytplbcncbljcfmaadoor", sum := "7a8cc38453a1ac5b597c92d34e8b55e01cef30fe817bb9fb86bf3b2ef4506a6e", func := "towline/towlinelaw05.PathParts", spec := "pathParts", inPlace := ["internal/bytealg.CountString", "internal/bytealg.IndexByteString", "internal/bytealg.IndexString", "internal/abi.NoEscape", "internal/bytealg.MakeNoZero"], unfollowed := true, recurses := true, named := ["unicode/utf8.first", "unicode/utf8.acceptRanges", "internal/bytealg.MaxLen"], apart := false, laid := [("unicode/utf8.acceptRanges", laid_unicode_utf8_acceptRanges), ("unicode/utf8.first", laid_unicode_utf8_first)] }
def PathPartsSaid : Prop := pathPartsRow.holds Tryd.pinned (OpenSpec.ofChange pathPartsSpec)

/-- ITS FALSE NEIGHBOUR: 'it returns false'. Refute it at one input. -/
def pathPartsWrong : ChangeSpec := { name := "pathParts", fn := fun _ => fun
  | [d1, d2] => { results := [.lit (.bool false)], args := [d1, d2] }
  | _ => none }
def PathPartsWrongFalsely : Prop := pathPartsRow.holds Tryd.pinned (OpenSpec.ofChange pathPartsWrong)

/-- 'towlinelaw05.PathClash': WHATEVER THE INPUT: true; the input reads as it did. -/
def pathClashSpec : ChangeSpec := { name := "pathClash", fn := fun _ => fun
  | [d] => { results := [.lit (.bool true)], args := [d] }
  | _ => none }
def pathClashRow : OpenClaim := { program := "ytplbcncbljcfmaadoor", sum := "7a8cc38453a1ac5b597c92d34e8b55e01cef30fe817bb9fb86bf3b2ef4506a6e", func := "towline/towlinelaw05.PathClash", spec := "pathClash", inPlace := ["internal/bytealg.CountString", "internal/bytealg.IndexByteString", "internal/bytealg.IndexString"], unfollowed := true, recurses := true, named := ["unicode/utf8.first", "unicode/utf8.acceptRanges", "internal/bytealg.MaxLen"], apart := false, laid := [("unicode/utf8.acceptRanges", laid_unicode_utf8_acceptRanges), ("unicode/utf8.first", laid_unicode_utf8_first)] }
def PathClashSaid : Prop := pathClashRow.holds Tryd.pinned (OpenSpec.ofChange pathClashSpec)

/-- ITS FALSE NEIGHBOUR: 'it returns false'. Refute it at one input. -/
def pathClashWrong : ChangeSpec := { name := "pathClash", fn := fun _ => fun
  | [d] => { results := [.lit (.bool false)], args := [d] }
  | _ => none }
def PathClashWrongFalsely : Prop := pathClashRow.holds Tryd.pinned (OpenSpec.ofChange pathClashWrong)

/-- 'towlinelaw05.PathSorted': WHATEVER THE INPUT: true; the input reads as it did. -/
def pathSortedSpec : ChangeSpec := { name := "pathSorted", fn := fun _ => fun
  | [d1, d2] => { results := [.lit (.bool true)], args := [d1, d2] }
  | _ => none }
def pathSortedRow : OpenClaim := { program := "ytplbcncbljcfmaadoor", sum := "7a8cc38453a1ac5b597c92d34e8b55e01cef30fe817bb9fb86bf3b2ef4506a6e", func := "towline/towlinelaw05.PathSorted", spec := "pathSorted", inPlace := ["internal/bytealg.CountString", "internal/bytealg.IndexByteString", "internal/bytealg.IndexString"], unfollowed := true, recurses := true, named := ["unicode/utf8.first", "unicode/utf8.acceptRanges", "internal/bytealg.MaxLen"], apart := false, laid := [("unicode/utf8.acceptRanges", laid_unicode_utf8_acceptRanges), ("unicode/utf8.first", laid_unicode_utf8_first)] }
def PathSortedSaid : Prop := pathSortedRow.holds Tryd.pinned (OpenSpec.ofChange pathSortedSpec)

/-- ITS FALSE NEIGHBOUR: 'it returns false'. Refute it at one input. -/
def pathSortedWrong : ChangeSpec := { name := "pathSorted", fn := fun _ => fun
  | [d1, d2] => { results := [.lit (.bool false)], args := [d1, d2] }
  | _ => none }
def PathSortedWrongFalsely : Prop := pathSortedRow.holds Tryd.pinned (OpenSpec.ofChange pathSortedWrong)

/-- 'towlinelaw06.GlobMatches': WHATEVER THE INPUT: true; the input reads as it did. -/
def globMatchesSpec : ChangeSpec := { name := "globMatches", fn := fun _ => fun
  | [d1, d2] => { results := [.lit (.bool true)], args := [d1, d2] }
  | _ => none }
def globMatchesRow : OpenClaim := { program := "ytplbcncbljcfmaadoor", sum := "7a8cc38453a1ac5b597c92d34e8b55e01cef30fe817bb9fb86bf3b2ef4506a6e", func := "towline/towlinelaw06.GlobMatches", spec := "globMatches", inPlace := ["internal/bytealg.CountString", "internal/bytealg.IndexByteString", "internal/bytealg.IndexString"], unfollowed := true, recurses := true, named := ["unicode/utf8.first", "unicode/utf8.acceptRanges", "internal/bytealg.MaxLen"], apart := false, laid := [("unicode/utf8.acceptRanges", laid_unicode_utf8_acceptRanges), ("unicode/utf8.first", laid_unicode_utf8_first)] }
def GlobMatchesSaid : Prop := globMatchesRow.holds Tryd.pinned (OpenSpec.ofChange globMatchesSpec)

/-- ITS FALSE NEIGHBOUR: 'it returns false'. Refute it at one input. -/
def globMatchesWrong : ChangeSpec := { name := "globMatches", fn := fun _ => fun
  | [d1, d2] => { results := [.lit (.bool false)], args := [d1, d2] }
  | _ => none }
def GlobMatchesWrongFalsely : Prop := globMatchesRow.holds Tryd.pinned (OpenSpec.ofChange globMatchesWrong)

/- THE SECOND FORM. 'bulk': how many values and letters a reading holds, each counted each time it is reached (what is shared counts as often as it is met; a slice's spare places count too). A statement '..UptoSaid' is the law's where the arguments, and the package variables that the reading takes, are together of bulk at most 1048576: NARROWER than '..Said'. Prove '..Said' where nothing that the law and all that it calls make is longer than what came in: it says more and counts as full. Else prove '..UptoSaid'. A law counts once. -/
mutual
def uptoBulk {H : Type} : DataW H → Nat
  | .lit (.string bytes) => bytes.length + 1
  | .lit _ => 1
  | .nil => 1
  | .ptr d => uptoBulk d + 1
  | .slice elems spare => uptoBulkAll elems + uptoBulkAll spare + 1
  | .agg parts => uptoBulkAll parts + 1
  | .iface _ d => uptoBulk d + 1
  | .map entries => uptoBulkEntries entries + 1
  | .held _ => 1
def uptoBulkAll {H : Type} : List (DataW H) → Nat
  | [] => 0
  | d :: r => uptoBulk d + uptoBulkAll r
def uptoBulkEntries {H : Type} : List (Lit × DataW H) → Nat
  | [] => 0
  | x :: r => uptoBulkEntry x + uptoBulkEntries r
def uptoBulkEntry {H : Type} : Lit × DataW H → Nat
  | (.string bytes, d) => bytes.length + uptoBulk d + 1
  | (_, d) => uptoBulk d + 1
 end
def uptoSmall : (H : Type) → List (DataW H) → Bool := fun _ ds => decide (uptoBulkAll ds ≤ 1048576)
def OpenSpec.upto (s : _root_.Go.ChangeSpec) : _root_.Go.OpenSpec := { _root_.Go.OpenSpec.ofChange s with cond := some uptoSmall }

/-- 'towlinelaw03.ShaSums', WHERE WHAT IT READS IS OF BULK AT MOST 1048576: true; the input reads as it did. -/
def shaSumsUptoRow : OpenClaim := { program := "ytplbcncbljcfmaadoor", sum := "7a8cc38453a1ac5b597c92d34e8b55e01cef30fe817bb9fb86bf3b2ef4506a6e", func := "towline/towlinelaw03.ShaSums", spec := "shaSums", inPlace := ["internal/bytealg.IndexByteString"], named := ["towline/sha.first", "towline/sha.rounds"], apart := false, laid := [("towline/sha.first", laid_towline_sha_first), ("towline/sha.rounds", laid_towline_sha_rounds)], narrowed := true }
def ShaSumsUptoSaid : Prop := shaSumsUptoRow.holds Tryd.pinned (OpenSpec.upto shaSumsSpec)

/-- 'towlinelaw03.ShaTexts', WHERE WHAT IT READS IS OF BULK AT MOST 1048576: true; the input reads as it did. -/
def shaTextsUptoRow : OpenClaim := { program := "ytplbcncbljcfmaadoor", sum := "7a8cc38453a1ac5b597c92d34e8b55e01cef30fe817bb9fb86bf3b2ef4506a6e", func := "towline/towlinelaw03.ShaTexts", spec := "shaTexts", inPlace := ["internal/bytealg.IndexByteString"], named := ["towline/sha.first", "towline/sha.rounds"], apart := false, laid := [("towline/sha.first", laid_towline_sha_first), ("towline/sha.rounds", laid_towline_sha_rounds)], narrowed := true }
def ShaTextsUptoSaid : Prop := shaTextsUptoRow.holds Tryd.pinned (OpenSpec.upto shaTextsSpec)

/-- 'towlinelaw03.ShaBack', WHERE WHAT IT READS IS OF BULK AT MOST 1048576: true; the input reads as it did. -/
def shaBackUptoRow : OpenClaim := { program := "ytplbcncbljcfmaadoor", sum := "7a8cc38453a1ac5b597c92d34e8b55e01cef30fe817bb9fb86bf3b2ef4506a6e", func := "towline/towlinelaw03.ShaBack", spec := "shaBack", inPlace := ["internal/bytealg.IndexByteString"], named := ["towline/sha.first", "towline/sha.rounds"], apart := false, laid := [("towline/sha.first", laid_towline_sha_first), ("towline/sha.rounds", laid_towline_sha_rounds)], narrowed := true }
def ShaBackUptoSaid : Prop := shaBackUptoRow.holds Tryd.pinned (OpenSpec.upto shaBackSpec)

/-- 'towlinelaw03.ShaShort', WHERE WHAT IT READS IS OF BULK AT MOST 1048576: true; the input reads as it did. -/
def shaShortUptoRow : OpenClaim := { program := "ytplbcncbljcfmaadoor", sum := "7a8cc38453a1ac5b597c92d34e8b55e01cef30fe817bb9fb86bf3b2ef4506a6e", func := "towline/towlinelaw03.ShaShort", spec := "shaShort", inPlace := ["internal/bytealg.IndexByteString"], named := ["towline/sha.first", "towline/sha.rounds"], apart := false, laid := [("towline/sha.first", laid_towline_sha_first), ("towline/sha.rounds", laid_towline_sha_rounds)], narrowed := true }
def ShaShortUptoSaid : Prop := shaShortUptoRow.holds Tryd.pinned (OpenSpec.upto shaShortSpec)

/-- 'towlinelaw03.ShaKeeps', WHERE WHAT IT READS IS OF BULK AT MOST 1048576: true; the input reads as it did. -/
def shaKeepsUptoRow : OpenClaim := { program := "ytplbcncbljcfmaadoor", sum := "7a8cc38453a1ac5b597c92d34e8b55e01cef30fe817bb9fb86bf3b2ef4506a6e", func := "towline/towlinelaw03.ShaKeeps", spec := "shaKeeps", inPlace := ["internal/bytealg.IndexByteString"], named := ["towline/sha.first", "towline/sha.rounds"], apart := false, laid := [("towline/sha.first", laid_towline_sha_first), ("towline/sha.rounds", laid_towline_sha_rounds)], narrowed := true }
def ShaKeepsUptoSaid : Prop := shaKeepsUptoRow.holds Tryd.pinned (OpenSpec.upto shaKeepsSpec)

/-- 'towlinelaw05.PathLooks', WHERE WHAT IT READS IS OF BULK AT MOST 1048576: true; the input reads as it did. -/
def pathLooksUptoRow : OpenClaim := { program := "ytplbcncbljcfmaadoor", sum := "7a8cc38453a1ac5b597c92d34e8b55e01cef30fe817bb9fb86bf3b2ef4506a6e", func := "towline/towlinelaw05.PathLooks", spec := "pathLooks", inPlace := ["internal/bytealg.CountString", "internal/bytealg.IndexByteString", "internal/bytealg.IndexString", "internal/abi.NoEscape", "internal/bytealg.MakeNoZero"], unfollowed := true, recurses := true, named := ["unicode/utf8.first", "unicode/utf8.acceptRanges", "internal/bytealg.MaxLen"], apart := false, laid := [("unicode/utf8.acceptRanges", laid_unicode_utf8_acceptRanges), ("unicode/utf8.first", laid_unicode_utf8_first)], narrowed := true }
def PathLooksUptoSaid : Prop := pathLooksUptoRow.holds Tryd.pinned (OpenSpec.upto pathLooksSpec)

/-- 'towlinelaw05.PathLists', WHERE WHAT IT READS IS OF BULK AT MOST 1048576: true; the input reads as it did. -/
def pathListsUptoRow : OpenClaim := { program := "ytplbcncbljcfmaadoor", sum := "7a8cc38453a1ac5b597c92d34e8b55e01cef30fe817bb9fb86bf3b2ef4506a6e", func := "towline/towlinelaw05.PathLists", spec := "pathLists", inPlace := ["internal/bytealg.CountString", "internal/bytealg.IndexByteString", "internal/bytealg.IndexString"], unfollowed := true, recurses := true, named := ["unicode/utf8.first", "unicode/utf8.acceptRanges", "internal/bytealg.MaxLen"], apart := false, laid := [("unicode/utf8.acceptRanges", laid_unicode_utf8_acceptRanges), ("unicode/utf8.first", laid_unicode_utf8_first)], narrowed := true }
def PathListsUptoSaid : Prop := pathListsUptoRow.holds Tryd.pinned (OpenSpec.upto pathListsSpec)

/-- 'towlinelaw05.PathOrder', WHERE WHAT IT READS IS OF BULK AT MOST 1048576: true; the input reads as it did. -/
def pathOrderUptoRow : OpenClaim := { program := "ytplbcncbljcfmaadoor", sum := "7a8cc38453a1ac5b597c92d34e8b55e01cef30fe817bb9fb86bf3b2ef4506a6e", func := "towline/towlinelaw05.PathOrder", spec := "pathOrder", inPlace := ["internal/bytealg.CountString", "internal/bytealg.IndexByteString", "internal/bytealg.IndexString"], unfollowed := true, recurses := true, named := ["unicode/utf8.first", "unicode/utf8.acceptRanges", "internal/bytealg.MaxLen"], apart := false, laid := [("unicode/utf8.acceptRanges", laid_unicode_utf8_acceptRanges), ("unicode/utf8.first", laid_unicode_utf8_first)], narrowed := true }
def PathOrderUptoSaid : Prop := pathOrderUptoRow.holds Tryd.pinned (OpenSpec.upto pathOrderSpec)

/-- 'towlinelaw05.PathParts', WHERE WHAT IT READS IS OF BULK AT MOST 1048576: true; the input reads as it did. -/
def pathPartsUptoRow : OpenClaim := { program := "ytplbcncbljcfmaadoor", sum := "7a8cc38453a1ac5b597c92d34e8b55e01cef30fe817bb9fb86bf3b2ef4506a6e", func := "towline/towlinelaw05.PathParts", spec := "pathParts", inPlace := ["internal/bytealg.CountString", "internal/bytealg.IndexByteString", "internal/bytealg.IndexString", "internal/abi.NoEscape", "internal/bytealg.MakeNoZero"], unfollowed := true, recurses := true, named := ["unicode/utf8.first", "unicode/utf8.acceptRanges", "internal/bytealg.MaxLen"], apart := false, laid := [("unicode/utf8.acceptRanges", laid_unicode_utf8_acceptRanges), ("unicode/utf8.first", laid_unicode_utf8_first)], narrowed := true }
def PathPartsUptoSaid : Prop := pathPartsUptoRow.holds Tryd.pinned (OpenSpec.upto pathPartsSpec)

/-- 'towlinelaw05.PathClash', WHERE WHAT IT READS IS OF BULK AT MOST 1048576: true; the input reads as it did. -/
def pathClashUptoRow : OpenClaim := { program := "ytplbcncbljcfmaadoor", sum := "7a8cc38453a1ac5b597c92d34e8b55e01cef30fe817bb9fb86bf3b2ef4506a6e", func := "towline/towlinelaw05.PathClash", spec := "pathClash", inPlace := ["internal/bytealg.CountString", "internal/bytealg.IndexByteString", "internal/bytealg.IndexString"], unfollowed := true, recurses := true, named := ["unicode/utf8.first", "unicode/utf8.acceptRanges", "internal/bytealg.MaxLen"], apart := false, laid := [("unicode/utf8.acceptRanges", laid_unicode_utf8_acceptRanges), ("unicode/utf8.first", laid_unicode_utf8_first)], narrowed := true }
def PathClashUptoSaid : Prop := pathClashUptoRow.holds Tryd.pinned (OpenSpec.upto pathClashSpec)

/-- 'towlinelaw05.PathSorted', WHERE WHAT IT READS IS OF BULK AT MOST 1048576: true; the input reads as it did. -/
def pathSortedUptoRow : OpenClaim := { program := "ytplbcncbljcfmaadoor", sum := "7a8cc38453a1ac5b597c92d34e8b55e01cef30fe817bb9fb86bf3b2ef4506a6e", func := "towline/towlinelaw05.PathSorted", spec := "pathSorted", inPlace := ["internal/bytealg.CountString", "internal/bytealg.IndexByteString", "internal/bytealg.IndexString"], unfollowed := true, recurses := true, named := ["unicode/utf8.first", "unicode/utf8.acceptRanges", "internal/bytealg.MaxLen"], apart := false, laid := [("unicode/utf8.acceptRanges", laid_unicode_utf8_acceptRanges), ("unicode/utf8.first", laid_unicode_utf8_first)], narrowed := true }
def PathSortedUptoSaid : Prop := pathSortedUptoRow.holds Tryd.pinned (OpenSpec.upto pathSortedSpec)

/-- 'towlinelaw06.GlobMatches', WHERE WHAT IT READS IS OF BULK AT MOST 1048576: true; the input reads as it did. -/
def globMatchesUptoRow : OpenClaim := { program := "ytplbcncbljcfmaadoor", sum := "7a8cc38453a1ac5b597c92d34e8b55e01cef30fe817bb9fb86bf3b2ef4506a6e", func := "towline/towlinelaw06.GlobMatches", spec := "globMatches", inPlace := ["internal/bytealg.CountString", "internal/bytealg.IndexByteString", "internal/bytealg.IndexString"], unfollowed := true, recurses := true, named := ["unicode/utf8.first", "unicode/utf8.acceptRanges", "internal/bytealg.MaxLen"], apart := false, laid := [("unicode/utf8.acceptRanges", laid_unicode_utf8_acceptRanges), ("unicode/utf8.first", laid_unicode_utf8_first)], narrowed := true }
def GlobMatchesUptoSaid : Prop := globMatchesUptoRow.holds Tryd.pinned (OpenSpec.upto globMatchesSpec)

end Rows
end Go.Proofs.YtplbcncbljcfmaaDoor
