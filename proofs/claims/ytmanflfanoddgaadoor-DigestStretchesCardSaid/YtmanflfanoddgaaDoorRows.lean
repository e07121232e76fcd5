/-
  NARROWER THAN 'FOR EVERY INPUT', by the rows' own cells (each row's printed sentence says how): DigestTags: laid · DigestStretches: laid · CodecEncodes: laid · CodecDecodes: laid · CodecCuts: laid · CodecKeys: laid · CodecStands: laid · CodecBases: laid · CodecRuns: laid · CodecSigns: laid · LineWrites: laid · LineBack: laid.
  DERIVED. THE GIVEN ROWS OF THIS SEAT. 12 by the template 'for every input the law returns true; each argument reads behind the call as it read before'; 0 by the template 'total and deterministic' (their statements: YtmanflfanoddgaaDoorTotals.lean).
  GIVEN WITH THE SEED: the statements are not yours to turn. If you find one false, say at which input.
  Laid BY PROGRAM, IN A SANDBOX (cutbox-rows.mjs): the forced cells as the released guide's own fill.sh prints them over the translation 7ac4262a15769879… (all of the seat's roots in one cut). By AI agents, Wed Nov 11 2026. No macro, syntax, notation, axiom, sorry.
-/
import Derived.Test.YtmanflfanoddgaaDoorChecked
import GoSem.PinnedTables
import GoSem.Claim
import GoSem.ClaimJoined
import GoSem.ClaimMapViews
import Derived.JoinedTies
import Derived.KernelRfl
namespace Go.Proofs.YtmanflfanoddgaaDoor
/- THE CELL 'sum', in the pinned program and in every row, IS THE sha256 OF THE DUMP (.gsa) THAT YtmanflfanoddgaaDoorProg.lean LOADS. Nothing in Lean hashes anything: it is a label: what it is worth is what the hold of that sum in a sandbox is worth. -/
noncomputable def Tryd.pinned : Pinned := { name := "ytmanflfanoddgaadoor", sum := "7ac4262a157698792220149030fafd07627970b22849c24508bbb095f00304b9", checked := Tryd.checked }
namespace Rows
def none {H : Type} : Left H := { results := [], args := [] }

/- WHAT THE LISTED PACKAGE-LEVEL VARIABLES READ AS WHEN THE CALL BEGINS. Each datum BY PROGRAM (the guide's laid-datum.mjs) off the statement by which the dump's own 'gosem.cut.vars' lays the variable. In a bare row this is a premise. The card (YtmanflfanoddgaaDoorCards.lean) ties it to the program's text. -/
def laid_muniment_digest_start {H : Type} : DataW H := .agg [.lit (.int .u32 1779033703), .lit (.int .u32 3144134277), .lit (.int .u32 1013904242), .lit (.int .u32 2773480762), .lit (.int .u32 1359893119), .lit (.int .u32 2600822924), .lit (.int .u32 528734635), .lit (.int .u32 1541459225)]
def laid_muniment_digest_roundWords {H : Type} : DataW H := .agg [.lit (.int .u32 1116352408), .lit (.int .u32 1899447441), .lit (.int .u32 3049323471), .lit (.int .u32 3921009573), .lit (.int .u32 961987163), .lit (.int .u32 1508970993), .lit (.int .u32 2453635748), .lit (.int .u32 2870763221), .lit (.int .u32 3624381080), .lit (.int .u32 310598401), .lit (.int .u32 607225278), .lit (.int .u32 1426881987), .lit (.int .u32 1925078388), .lit (.int .u32 2162078206), .lit (.int .u32 2614888103), .lit (.int .u32 3248222580), .lit (.int .u32 3835390401), .lit (.int .u32 4022224774), .lit (.int .u32 264347078), .lit (.int .u32 604807628), .lit (.int .u32 770255983), .lit (.int .u32 1249150122), .lit (.int .u32 1555081692), .lit (.int .u32 1996064986), .lit (.int .u32 2554220882), .lit (.int .u32 2821834349), .lit (.int .u32 2952996808), .lit (.int .u32 3210313671), .lit (.int .u32 3336571891), .lit (.int .u32 3584528711), .lit (.int .u32 113926993), .lit (.int .u32 338241895), .lit (.int .u32 666307205), .lit (.int .u32 773529912), .lit (.int .u32 1294757372), .lit (.int .u32 1396182291), .lit (.int .u32 1695183700), .lit (.int .u32 1986661051), .lit (.int .u32 2177026350), .lit (.int .u32 2456956037), .lit (.int .u32 2730485921), .lit (.int .u32 2820302411), .lit (.int .u32 3259730800), .lit (.int .u32 3345764771), .lit (.int .u32 3516065817), .lit (.int .u32 3600352804), .lit (.int .u32 4094571909), .lit (.int .u32 275423344), .lit (.int .u32 430227734), .lit (.int .u32 506948616), .lit (.int .u32 659060556), .lit (.int .u32 883997877), .lit (.int .u32 958139571), .lit (.int .u32 1322822218), .lit (.int .u32 1537002063), .lit (.int .u32 1747873779), .lit (.int .u32 1955562222), .lit (.int .u32 2024104815), .lit (.int .u32 2227730452), .lit (.int .u32 2361852424), .lit (.int .u32 2428436474), .lit (.int .u32 2756734187), .lit (.int .u32 3204031479), .lit (.int .u32 3329325298)]
def laid_unicode_utf8_acceptRanges {H : Type} : DataW H := .agg [.agg [.lit (.int .u8 128), .lit (.int .u8 191)], .agg [.lit (.int .u8 160), .lit (.int .u8 191)], .agg [.lit (.int .u8 128), .lit (.int .u8 159)], .agg [.lit (.int .u8 144), .lit (.int .u8 191)], .agg [.lit (.int .u8 128), .lit (.int .u8 143)], .agg [.lit (.int .u8 0), .lit (.int .u8 0)], .agg [.lit (.int .u8 0), .lit (.int .u8 0)], .agg [.lit (.int .u8 0), .lit (.int .u8 0)], .agg [.lit (.int .u8 0), .lit (.int .u8 0)], .agg [.lit (.int .u8 0), .lit (.int .u8 0)], .agg [.lit (.int .u8 0), .lit (.int .u8 0)], .agg [.lit (.int .u8 0), .lit (.int .u8 0)], .agg [.lit (.int .u8 0), .lit (.int .u8 0)], .agg [.lit (.int .u8 0), .lit (.int .u8 0)], .agg [.lit (.int .u8 0), .lit (.int .u8 0)], .agg [.lit (.int .u8 0), .lit (.int .u8 0)]]
/-- One of Go's own tables, pinned by name: the form's constant. -/
def laid_unicode_utf8_first : DataW Unit := Go.Pinned.utf8First
def laid_muniment_line_verbs {H : Type} : DataW H := .agg [.agg [.lit (.int .u8 1), .lit (.string [99, 114, 101, 97, 116, 101]), .lit (.int .i64 4)], .agg [.lit (.int .u8 2), .lit (.string [100, 114, 111, 112]), .lit (.int .i64 2)], .agg [.lit (.int .u8 3), .lit (.string [108, 111, 103, 105, 110]), .lit (.int .i64 2)], .agg [.lit (.int .u8 4), .lit (.string [99, 104, 101, 99, 107]), .lit (.int .i64 1)], .agg [.lit (.int .u8 5), .lit (.string [114, 101, 118, 111, 107, 101]), .lit (.int .i64 1)], .agg [.lit (.int .u8 6), .lit (.string [112, 97, 115, 115]), .lit (.int .i64 3)], .agg [.lit (.int .u8 7), .lit (.string [114, 111, 108, 101]), .lit (.int .i64 3)], .agg [.lit (.int .u8 8), .lit (.string [117, 110, 108, 111, 99, 107]), .lit (.int .i64 2)], .agg [.lit (.int .u8 9), .lit (.string [119, 104, 111]), .lit (.int .i64 2)], .agg [.lit (.int .u8 10), .lit (.string [108, 105, 115, 116]), .lit (.int .i64 1)], .agg [.lit (.int .u8 11), .lit (.string [97, 117, 100, 105, 116]), .lit (.int .i64 2)]]

/-- 'munimentlaw01.DigestTags': WHATEVER THE INPUT: true; the input reads as it did. -/
def digestTagsSpec : ChangeSpec := { name := "digestTags", fn := fun _ => fun
  | [d1, d2] => { results := [.lit (.bool true)], args := [d1, d2] }
  | _ => none }
def digestTagsRow : OpenClaim := { program := "ytmanflfanoddgaadoor", sum := "7ac4262a157698792220149030fafd07627970b22849c24508bbb095f00304b9", func := "muniment/munimentlaw01.DigestTags", spec := "digestTags", named := ["muniment/digest.start", "muniment/digest.roundWords"], apart := false, laid := [("muniment/digest.start", laid_muniment_digest_start), ("muniment/digest.roundWords", laid_muniment_digest_roundWords)] }
def DigestTagsSaid : Prop := digestTagsRow.holds Tryd.pinned (OpenSpec.ofChange digestTagsSpec)

/-- ITS FALSE NEIGHBOUR: 'it returns false'. Refute it at one input. -/
def digestTagsWrong : ChangeSpec := { name := "digestTags", fn := fun _ => fun
  | [d1, d2] => { results := [.lit (.bool false)], args := [d1, d2] }
  | _ => none }
def DigestTagsWrongFalsely : Prop := digestTagsRow.holds Tryd.pinned (OpenSpec.ofChange digestTagsWrong)

/-- 'munimentlaw01.DigestStretches': WHATEVER THE INPUT: true; the input reads as it did. -/
def digestStretchesSpec : ChangeSpec := { name := "digestStretches", fn := fun _ => fun
  | [d1, d2, d3] => { results := [.lit (.bool true)], args := [d1, d2, d3] }
  | _ => none }
def digestStretchesRow : OpenClaim := { program := "ytmanflfanoddgaadoor", sum := "7ac4262a157698792220149030fafd07627970b22849c24508bbb095f00304b9", func := "muniment/munimentlaw01.DigestStretches", spec := "digestStretches", named := ["muniment/digest.start", "muniment/digest.roundWords"], apart := false, laid := [("muniment/digest.start", laid_muniment_digest_start), ("muniment/digest.roundWords", laid_muniment_digest_roundWords)] }
def DigestStretchesSaid : Prop := digestStretchesRow.holds Tryd.pinned (OpenSpec.ofChange digestStretchesSpec)

/-- ITS FALSE NEIGHBOUR: 'it returns false'. Refute it at one input. -/
def digestStretchesWrong : ChangeSpec := { name := "digestStretches", fn := fun _ => fun
  | [d1, d2, d3] => { results := [.lit (.bool false)], args := [d1, d2, d3] }
  | _ => none }
def DigestStretchesWrongFalsely : Prop := digestStretchesRow.holds Tryd.pinned (OpenSpec.ofChange digestStretchesWrong)

/-- 'munimentlaw04.CodecEncodes': WHATEVER THE INPUT: true; the input reads as it did. -/
def codecEncodesSpec : ChangeSpec := { name := "codecEncodes", fn := fun _ => fun
  | [d] => { results := [.lit (.bool true)], args := [d] }
  | _ => none }
def codecEncodesRow : OpenClaim := { program := "ytmanflfanoddgaadoor", sum := "7ac4262a157698792220149030fafd07627970b22849c24508bbb095f00304b9", func := "muniment/munimentlaw04.CodecEncodes", spec := "codecEncodes", unfollowed := true, recurses := true, named := ["unicode/utf8.first", "unicode/utf8.acceptRanges"], apart := false, laid := [("unicode/utf8.acceptRanges", laid_unicode_utf8_acceptRanges), ("unicode/utf8.first", laid_unicode_utf8_first)] }
def CodecEncodesSaid : Prop := codecEncodesRow.holds Tryd.pinned (OpenSpec.ofChange codecEncodesSpec)

/-- ITS FALSE NEIGHBOUR: 'it returns false'. Refute it at one input. -/
def codecEncodesWrong : ChangeSpec := { name := "codecEncodes", fn := fun _ => fun
  | [d] => { results := [.lit (.bool false)], args := [d] }
  | _ => none }
def CodecEncodesWrongFalsely : Prop := codecEncodesRow.holds Tryd.pinned (OpenSpec.ofChange codecEncodesWrong)

/-- 'munimentlaw04.CodecDecodes': WHATEVER THE INPUT: true; the input reads as it did. -/
def codecDecodesSpec : ChangeSpec := { name := "codecDecodes", fn := fun _ => fun
  | [d] => { results := [.lit (.bool true)], args := [d] }
  | _ => none }
def codecDecodesRow : OpenClaim := { program := "ytmanflfanoddgaadoor", sum := "7ac4262a157698792220149030fafd07627970b22849c24508bbb095f00304b9", func := "muniment/munimentlaw04.CodecDecodes", spec := "codecDecodes", unfollowed := true, recurses := true, named := ["unicode/utf8.first", "unicode/utf8.acceptRanges"], apart := false, laid := [("unicode/utf8.acceptRanges", laid_unicode_utf8_acceptRanges), ("unicode/utf8.first", laid_unicode_utf8_first)] }
def CodecDecodesSaid : Prop := codecDecodesRow.holds Tryd.pinned (OpenSpec.ofChange codecDecodesSpec)

/-- ITS FALSE NEIGHBOUR: 'it returns false'. Refute it at one input. -/
def codecDecodesWrong : ChangeSpec := { name := "codecDecodes", fn := fun _ => fun
  | [d] => { results := [.lit (.bool false)], args := [d] }
  | _ => none }
def CodecDecodesWrongFalsely : Prop := codecDecodesRow.holds Tryd.pinned (OpenSpec.ofChange codecDecodesWrong)

/-- 'munimentlaw04.CodecCuts': WHATEVER THE INPUT: true; the input reads as it did. -/
def codecCutsSpec : ChangeSpec := { name := "codecCuts", fn := fun _ => fun
  | [d1, d2, d3] => { results := [.lit (.bool true)], args := [d1, d2, d3] }
  | _ => none }
def codecCutsRow : OpenClaim := { program := "ytmanflfanoddgaadoor", sum := "7ac4262a157698792220149030fafd07627970b22849c24508bbb095f00304b9", func := "muniment/munimentlaw04.CodecCuts", spec := "codecCuts", unfollowed := true, recurses := true, named := ["unicode/utf8.first", "unicode/utf8.acceptRanges"], apart := false, laid := [("unicode/utf8.acceptRanges", laid_unicode_utf8_acceptRanges), ("unicode/utf8.first", laid_unicode_utf8_first)] }
def CodecCutsSaid : Prop := codecCutsRow.holds Tryd.pinned (OpenSpec.ofChange codecCutsSpec)

/-- ITS FALSE NEIGHBOUR: 'it returns false'. Refute it at one input. -/
def codecCutsWrong : ChangeSpec := { name := "codecCuts", fn := fun _ => fun
  | [d1, d2, d3] => { results := [.lit (.bool false)], args := [d1, d2, d3] }
  | _ => none }
def CodecCutsWrongFalsely : Prop := codecCutsRow.holds Tryd.pinned (OpenSpec.ofChange codecCutsWrong)

/-- 'munimentlaw04.CodecKeys': WHATEVER THE INPUT: true; the input reads as it did. -/
def codecKeysSpec : ChangeSpec := { name := "codecKeys", fn := fun _ => fun
  | [d1, d2, d3, d4] => { results := [.lit (.bool true)], args := [d1, d2, d3, d4] }
  | _ => none }
def codecKeysRow : OpenClaim := { program := "ytmanflfanoddgaadoor", sum := "7ac4262a157698792220149030fafd07627970b22849c24508bbb095f00304b9", func := "muniment/munimentlaw04.CodecKeys", spec := "codecKeys", unfollowed := true, recurses := true, named := ["unicode/utf8.first", "unicode/utf8.acceptRanges"], apart := false, laid := [("unicode/utf8.acceptRanges", laid_unicode_utf8_acceptRanges), ("unicode/utf8.first", laid_unicode_utf8_first)] }
def CodecKeysSaid : Prop := codecKeysRow.holds Tryd.pinned (OpenSpec.ofChange codecKeysSpec)

/-- ITS FALSE NEIGHBOUR: 'it returns false'. Refute it at one input. -/
def codecKeysWrong : ChangeSpec := { name := "codecKeys", fn := fun _ => fun
  | [d1, d2, d3, d4] => { results := [.lit (.bool false)], args := [d1, d2, d3, d4] }
  | _ => none }
def CodecKeysWrongFalsely : Prop := codecKeysRow.holds Tryd.pinned (OpenSpec.ofChange codecKeysWrong)

/-- 'munimentlaw04.CodecStands': WHATEVER THE INPUT: true; the input reads as it did. -/
def codecStandsSpec : ChangeSpec := { name := "codecStands", fn := fun _ => fun
  | [d1, d2, d3, d4] => { results := [.lit (.bool true)], args := [d1, d2, d3, d4] }
  | _ => none }
def codecStandsRow : OpenClaim := { program := "ytmanflfanoddgaadoor", sum := "7ac4262a157698792220149030fafd07627970b22849c24508bbb095f00304b9", func := "muniment/munimentlaw04.CodecStands", spec := "codecStands", named := ["unicode/utf8.first", "unicode/utf8.acceptRanges"], apart := false, laid := [("unicode/utf8.acceptRanges", laid_unicode_utf8_acceptRanges), ("unicode/utf8.first", laid_unicode_utf8_first)] }
def CodecStandsSaid : Prop := codecStandsRow.holds Tryd.pinned (OpenSpec.ofChange codecStandsSpec)

/-- ITS FALSE NEIGHBOUR: 'it returns false'. Refute it at one input. -/
def codecStandsWrong : ChangeSpec := { name := "codecStands", fn := fun _ => fun
  | [d1, d2, d3, d4] => { results := [.lit (.bool false)], args := [d1, d2, d3, d4] }
  | _ => none }
def CodecStandsWrongFalsely : Prop := codecStandsRow.holds Tryd.pinned (OpenSpec.ofChange codecStandsWrong)

/-- 'munimentlaw04.CodecBases': WHATEVER THE INPUT: true; the input reads as it did. -/
def codecBasesSpec : ChangeSpec := { name := "codecBases", fn := fun _ => fun
  | [d1, d2] => { results := [.lit (.bool true)], args := [d1, d2] }
  | _ => none }
def codecBasesRow : OpenClaim := { program := "ytmanflfanoddgaadoor", sum := "7ac4262a157698792220149030fafd07627970b22849c24508bbb095f00304b9", func := "muniment/munimentlaw04.CodecBases", spec := "codecBases", inPlace := ["internal/bytealg.IndexByteString"], named := ["unicode/utf8.first", "unicode/utf8.acceptRanges"], apart := false, laid := [("unicode/utf8.acceptRanges", laid_unicode_utf8_acceptRanges), ("unicode/utf8.first", laid_unicode_utf8_first)] }
def CodecBasesSaid : Prop := codecBasesRow.holds Tryd.pinned (OpenSpec.ofChange codecBasesSpec)

/-- ITS FALSE NEIGHBOUR: 'it returns false'. Refute it at one input. -/
def codecBasesWrong : ChangeSpec := { name := "codecBases", fn := fun _ => fun
  | [d1, d2] => { results := [.lit (.bool false)], args := [d1, d2] }
  | _ => none }
def CodecBasesWrongFalsely : Prop := codecBasesRow.holds Tryd.pinned (OpenSpec.ofChange codecBasesWrong)

/-- 'munimentlaw04.CodecRuns': WHATEVER THE INPUT: true; the input reads as it did. -/
def codecRunsSpec : ChangeSpec := { name := "codecRuns", fn := fun _ => fun
  | [d1, d2] => { results := [.lit (.bool true)], args := [d1, d2] }
  | _ => none }
def codecRunsRow : OpenClaim := { program := "ytmanflfanoddgaadoor", sum := "7ac4262a157698792220149030fafd07627970b22849c24508bbb095f00304b9", func := "muniment/munimentlaw04.CodecRuns", spec := "codecRuns", unfollowed := true, recurses := true, named := ["unicode/utf8.first", "unicode/utf8.acceptRanges"], apart := false, laid := [("unicode/utf8.acceptRanges", laid_unicode_utf8_acceptRanges), ("unicode/utf8.first", laid_unicode_utf8_first)] }
def CodecRunsSaid : Prop := codecRunsRow.holds Tryd.pinned (OpenSpec.ofChange codecRunsSpec)

/-- ITS FALSE NEIGHBOUR: 'it returns false'. Refute it at one input. -/
def codecRunsWrong : ChangeSpec := { name := "codecRuns", fn := fun _ => fun
  | [d1, d2] => { results := [.lit (.bool false)], args := [d1, d2] }
  | _ => none }
def CodecRunsWrongFalsely : Prop := codecRunsRow.holds Tryd.pinned (OpenSpec.ofChange codecRunsWrong)

/-- 'munimentlaw04.CodecSigns': WHATEVER THE INPUT: true; the input reads as it did. -/
def codecSignsSpec : ChangeSpec := { name := "codecSigns", fn := fun _ => fun
  | [d1, d2, d3] => { results := [.lit (.bool true)], args := [d1, d2, d3] }
  | _ => none }
def codecSignsRow : OpenClaim := { program := "ytmanflfanoddgaadoor", sum := "7ac4262a157698792220149030fafd07627970b22849c24508bbb095f00304b9", func := "muniment/munimentlaw04.CodecSigns", spec := "codecSigns", inPlace := ["internal/bytealg.IndexByteString"], named := ["unicode/utf8.first", "unicode/utf8.acceptRanges"], apart := false, laid := [("unicode/utf8.acceptRanges", laid_unicode_utf8_acceptRanges), ("unicode/utf8.first", laid_unicode_utf8_first)] }
def CodecSignsSaid : Prop := codecSignsRow.holds Tryd.pinned (OpenSpec.ofChange codecSignsSpec)

/-- ITS FALSE NEIGHBOUR: 'it returns false'. Refute it at one input. -/
def codecSignsWrong : ChangeSpec := { name := "codecSigns", fn := fun _ => fun
  | [d1, d2, d3] => { results := [.lit (.bool false)], args := [d1, d2, d3] }
  | _ => none }
def CodecSignsWrongFalsely : Prop := codecSignsRow.holds Tryd.pinned (OpenSpec.ofChange codecSignsWrong)

/-- 'munimentlaw05.LineWrites': WHATEVER THE INPUT: true; the input reads as it did. -/
def lineWritesSpec : ChangeSpec := { name := "lineWrites", fn := fun _ => fun
  | [d] => { results := [.lit (.bool true)], args := [d] }
  | _ => none }
def lineWritesRow : OpenClaim := { program := "ytmanflfanoddgaadoor", sum := "7ac4262a157698792220149030fafd07627970b22849c24508bbb095f00304b9", func := "muniment/munimentlaw05.LineWrites", spec := "lineWrites", inPlace := ["internal/bytealg.IndexByteString", "internal/bytealg.IndexString"], named := ["unicode/utf8.first", "unicode/utf8.acceptRanges", "muniment/line.verbs", "internal/bytealg.MaxLen"], apart := false, laid := [("unicode/utf8.acceptRanges", laid_unicode_utf8_acceptRanges), ("muniment/line.verbs", laid_muniment_line_verbs), ("unicode/utf8.first", laid_unicode_utf8_first)] }
def LineWritesSaid : Prop := lineWritesRow.holds Tryd.pinned (OpenSpec.ofChange lineWritesSpec)

/-- ITS FALSE NEIGHBOUR: 'it returns false'. Refute it at one input. -/
def lineWritesWrong : ChangeSpec := { name := "lineWrites", fn := fun _ => fun
  | [d] => { results := [.lit (.bool false)], args := [d] }
  | _ => none }
def LineWritesWrongFalsely : Prop := lineWritesRow.holds Tryd.pinned (OpenSpec.ofChange lineWritesWrong)

/-- 'munimentlaw05.LineBack': WHATEVER THE INPUT: true; the input reads as it did. -/
def lineBackSpec : ChangeSpec := { name := "lineBack", fn := fun _ => fun
  | [d] => { results := [.lit (.bool true)], args := [d] }
  | _ => none }
def lineBackRow : OpenClaim := { program := "ytmanflfanoddgaadoor", sum := "7ac4262a157698792220149030fafd07627970b22849c24508bbb095f00304b9", func := "muniment/munimentlaw05.LineBack", spec := "lineBack", inPlace := ["internal/bytealg.IndexByteString", "internal/bytealg.IndexString"], named := ["unicode/utf8.first", "unicode/utf8.acceptRanges", "muniment/line.verbs", "internal/bytealg.MaxLen"], apart := false, laid := [("unicode/utf8.acceptRanges", laid_unicode_utf8_acceptRanges), ("muniment/line.verbs", laid_muniment_line_verbs), ("unicode/utf8.first", laid_unicode_utf8_first)] }
def LineBackSaid : Prop := lineBackRow.holds Tryd.pinned (OpenSpec.ofChange lineBackSpec)

/-- ITS FALSE NEIGHBOUR: 'it returns false'. Refute it at one input. -/
def lineBackWrong : ChangeSpec := { name := "lineBack", fn := fun _ => fun
  | [d] => { results := [.lit (.bool false)], args := [d] }
  | _ => none }
def LineBackWrongFalsely : Prop := lineBackRow.holds Tryd.pinned (OpenSpec.ofChange lineBackWrong)

/- THE SECOND FORM. 'bulk': how many values and letters a reading holds, each counted each time it is reached (what is shared counts as often as it is met; a slice's spare places count too). A statement '..UptoSaid' is the law's where the arguments, and the package variables that the reading takes, are together of bulk at most 1048576: NARROWER than '..Said'. Prove '..Said' where nothing that the law and all that it calls make is longer than what came in: it says more and counts as full. Else prove '..UptoSaid'. A law counts once. -/
mutual
def uptoBulk {H : Type} : DataW H → Nat
  | .lit (.string bytes) => bytes.length + 1
  | .lit _ => 1
  | .nil => 1
  | .ptr d => uptoBulk d + 1
  | .slice elems spare => uptoBulkAll elems + uptoBulkAll spare + 1
  | .agg parts => uptoBulkAll parts + 1
  | .iface _ d => uptoBulk d + 1
  | .map entries => uptoBulkEntries entries + 1
  | .held _ => 1
def uptoBulkAll {H : Type} : List (DataW H) → Nat
  | [] => 0
  | d :: r => uptoBulk d + uptoBulkAll r
def uptoBulkEntries {H : Type} : List (Lit × DataW H) → Nat
  | [] => 0
  | x :: r => uptoBulkEntry x + uptoBulkEntries r
def uptoBulkEntry {H : Type} : Lit × DataW H → Nat
  | (.string bytes, d) => bytes.length + uptoBulk d + 1
  | (_, d) => uptoBulk d + 1
 end
def uptoSmall : (H : Type) → List (DataW H) → Bool := fun _ ds => decide (uptoBulkAll ds ≤ 1048576)
def OpenSpec.upto (s : _root_.Go.ChangeSpec) : _root_.Go.OpenSpec := { _root_.Go.OpenSpec.ofChange s with cond := some uptoSmall }

/-- 'munimentlaw01.DigestTags', WHERE WHAT IT READS IS OF BULK AT MOST 1048576: true; the input reads as it did. -/
def digestTagsUptoRow : OpenClaim := { program := "ytmanflfanoddgaadoor", sum := "7ac4262a157698792220149030fafd07627970b22849c24508bbb095f00304b9", func := "muniment/munimentlaw01.DigestTags", spec := "digestTags", named := ["muniment/digest.start", "muniment/digest.roundWords"], apart := false, laid := [("muniment/digest.start", laid_muniment_digest_start), ("muniment/digest.roundWords", laid_muniment_digest_roundWords)], narrowed := true }
def DigestTagsUptoSaid : Prop := digestTagsUptoRow.holds Tryd.pinned (OpenSpec.upto digestTagsSpec)

/-- 'munimentlaw01.DigestStretches', WHERE WHAT IT READS IS OF BULK AT MOST 1048576: true; the input reads as it did. -/
def digestStretchesUptoRow : OpenClaim := { program := "ytmanflfanoddgaadoor", sum := "7ac4262a157698792220149030fafd07627970b22849c24508bbb095f00304b9", func := "muniment/munimentlaw01.DigestStretches", spec := "digestStretches", named := ["muniment/digest.start", "muniment/digest.roundWords"], apart := false, laid := [("muniment/digest.start", laid_muniment_digest_start), ("muniment/digest.roundWords", laid_muniment_digest_roundWords)], narrowed := true }
def DigestStretchesUptoSaid : Prop := digestStretchesUptoRow.holds Tryd.pinned (OpenSpec.upto digestStretchesSpec)

/-- 'munimentlaw04.CodecEncodes', WHERE WHAT IT READS IS OF BULK AT MOST 1048576: true; the input reads as it did. -/
def codecEncodesUptoRow : OpenClaim := { program := "ytmanflfanoddgaadoor", sum := "7ac4262a157698792220149030fafd07627970b22849c24508bbb095f00304b9", func := "muniment/munimentlaw04.CodecEncodes", spec := "codecEncodes", unfollowed := true, recurses := true, named := ["unicode/utf8.first", "unicode/utf8.acceptRanges"], apart := false, laid := [("unicode/utf8.acceptRanges", laid_unicode_utf8_acceptRanges), ("unicode/utf8.first", laid_unicode_utf8_first)], narrowed := true }
def CodecEncodesUptoSaid : Prop := codecEncodesUptoRow.holds Tryd.pinned (OpenSpec.upto codecEncodesSpec)

/-- 'munimentlaw04.CodecDecodes', WHERE WHAT IT READS IS OF BULK AT MOST 1048576: true; the input reads as it did. -/
def codecDecodesUptoRow : OpenClaim := { program := "ytmanflfanoddgaadoor", sum := "7ac4262a157698792220149030fafd07627970b22849c24508bbb095f00304b9", func := "muniment/munimentlaw04.CodecDecodes", spec := "codecDecodes", unfollowed := true, recurses := true, named := ["unicode/utf8.first", "unicode/utf8.acceptRanges"], apart := false, laid := [("unicode/utf8.acceptRanges", laid_unicode_utf8_acceptRanges), ("unicode/utf8.first", laid_unicode_utf8_first)], narrowed := true }
def CodecDecodesUptoSaid : Prop := codecDecodesUptoRow.holds Tryd.pinned (OpenSpec.upto codecDecodesSpec)

/-- 'munimentlaw04.CodecCuts', WHERE WHAT IT READS IS OF BULK AT MOST 1048576: true; the input reads as it did. -/
def codecCutsUptoRow : OpenClaim := { program := "ytmanflfanoddgaadoor", sum := "7ac4262a157698792220149030fafd07627970b22849c24508bbb095f00304b9", func := "muniment/munimentlaw04.CodecCuts", spec := "codecCuts", unfollowed := true, recurses := true, named := ["unicode/utf8.first", "unicode/utf8.acceptRanges"], apart := false, laid := [("unicode/utf8.acceptRanges", laid_unicode_utf8_acceptRanges), ("unicode/utf8.first", laid_unicode_utf8_first)], narrowed := true }
def CodecCutsUptoSaid : Prop := codecCutsUptoRow.holds Tryd.pinned (OpenSpec.upto codecCutsSpec)

/-- 'munimentlaw04.CodecKeys', WHERE WHAT IT READS IS OF BULK AT MOST 1048576: true; the input reads as it did. -/
def codecKeysUptoRow : OpenClaim := { program := "ytmanflfanoddgaadoor", sum := "7ac4262a157698792220149030fafd07627970b22849c24508bbb095f00304b9", func := "muniment/munimentlaw04.CodecKeys", spec := "codecKeys", unfollowed := true, recurses := true, named := ["unicode/utf8.first", "unicode/utf8.acceptRanges"], apart := false, laid := [("unicode/utf8.acceptRanges", laid_unicode_utf8_acceptRanges), ("unicode/utf8.first", laid_unicode_utf8_first)], narrowed := true }
def CodecKeysUptoSaid : Prop := codecKeysUptoRow.holds Tryd.pinned (OpenSpec.upto codecKeysSpec)

/-- 'munimentlaw04.CodecStands', WHERE WHAT IT READS IS OF BULK AT MOST 1048576: true; the input reads as it did. -/
def codecStandsUptoRow : OpenClaim := { program := "ytmanflfanoddgaadoor", sum := "7ac4262a157698792220149030fafd07627970b22849c24508bbb095f00304b9", func := "muniment/munimentlaw04.CodecStands", spec := "codecStands", named := ["unicode/utf8.first", "unicode/utf8.acceptRanges"], apart := false, laid := [("unicode/utf8.acceptRanges", laid_unicode_utf8_acceptRanges), ("unicode/utf8.first", laid_unicode_utf8_first)], narrowed := true }
def CodecStandsUptoSaid : Prop := codecStandsUptoRow.holds Tryd.pinned (OpenSpec.upto codecStandsSpec)

/-- 'munimentlaw04.CodecBases', WHERE WHAT IT READS IS OF BULK AT MOST 1048576: true; the input reads as it did. -/
def codecBasesUptoRow : OpenClaim := { program := "ytmanflfanoddgaadoor", sum := "7ac4262a157698792220149030fafd07627970b22849c24508bbb095f00304b9", func := "muniment/munimentlaw04.CodecBases", spec := "codecBases", inPlace := ["internal/bytealg.IndexByteString"], named := ["unicode/utf8.first", "unicode/utf8.acceptRanges"], apart := false, laid := [("unicode/utf8.acceptRanges", laid_unicode_utf8_acceptRanges), ("unicode/utf8.first", laid_unicode_utf8_first)], narrowed := true }
def CodecBasesUptoSaid : Prop := codecBasesUptoRow.holds Tryd.pinned (OpenSpec.upto codecBasesSpec)

/-- 'munimentlaw04.CodecRuns', WHERE WHAT IT READS IS OF BULK AT MOST 1048576: true; the input reads as it did. -/
def codecRunsUptoRow : OpenClaim := { program := "ytmanflfanoddgaadoor", sum := "7ac4262a157698792220149030fafd07627970b22849c24508bbb095f00304b9", func := "muniment/munimentlaw04.CodecRuns", spec := "codecRuns", unfollowed := true, recurses := true, named := ["unicode/utf8.first", "unicode/utf8.acceptRanges"], apart := false, laid := [("unicode/utf8.acceptRanges", laid_unicode_utf8_acceptRanges), ("unicode/utf8.first", laid_unicode_utf8_first)], narrowed := true }
def CodecRunsUptoSaid : Prop := codecRunsUptoRow.holds Tryd.pinned (OpenSpec.upto codecRunsSpec)

/-- 'munimentlaw04.CodecSigns', WHERE WHAT IT READS IS OF BULK AT MOST 1048576: true; the input reads as it did. -/
def codecSignsUptoRow : OpenClaim := { program := "ytmanflfanoddgaadoor", sum := "7ac4262a157698792220149030fafd07627970b22849c24508bbb095f00304b9", func := "muniment/munimentlaw04.CodecSigns", spec := "codecSigns", inPlace := ["internal/bytealg.IndexByteString"], named := ["unicode/utf8.first", "unicode/utf8.acceptRanges"], apart := false, laid := [("unicode/utf8.acceptRanges", laid_unicode_utf8_acceptRanges), ("unicode/utf8.first", laid_unicode_utf8_first)], narrowed := true }
def CodecSignsUptoSaid : Prop := codecSignsUptoRow.holds Tryd.pinned (OpenSpec.upto codecSignsSpec)

/-- 'munimentlaw05.LineWrites', WHERE WHAT IT READS IS OF BULK AT MOST 1048576: true; the input reads as it did. -/
def lineWritesUptoRow : OpenClaim := { program := "ytmanflfanoddgaadoor", sum := "7ac4262a157698792220149030fafd07627970b22849c24508bbb095f00304b9", func := "muniment/munimentlaw05.LineWrites", spec := "lineWrites", inPlace := ["internal/bytealg.IndexByteString", "internal/bytealg.IndexString"], named := ["unicode/utf8.first", "unicode/utf8.acceptRanges", "muniment/line.verbs", "internal/bytealg.MaxLen"], apart := false, laid := [("unicode/utf8.acceptRanges", laid_unicode_utf8_acceptRanges), ("muniment/line.verbs", laid_muniment_line_verbs), ("unicode/utf8.first", laid_unicode_utf8_first)], narrowed := true }
def LineWritesUptoSaid : Prop := lineWritesUptoRow.holds Tryd.pinned (OpenSpec.upto lineWritesSpec)

/-- 'munimentlaw05.LineBack', WHERE WHAT IT READS IS OF BULK AT MOST 1048576: true; the input reads as it did. -/
def lineBackUptoRow : OpenClaim := { program := "ytmanflfanoddgaadoor", sum := "7ac4262a157698792220149030fafd07627970b22849c24508bbb095f00304b9", func := "muniment/munimentlaw05.LineBack", spec := "lineBack", inPlace := ["internal/bytealg.IndexByteString", "internal/bytealg.IndexString"], named := ["unicode/utf8.first", "unicode/utf8.acceptRanges", "muniment/line.verbs", "internal/bytealg.MaxLen"], apart := false, laid := [("unicode/utf8.acceptRanges", laid_unicode_utf8_acceptRanges), ("muniment/line.verbs", laid_muniment_line_verbs), ("unicode/utf8.first", laid_unicode_utf8_first)], narrowed := true }
def LineBackUptoSaid : Prop := lineBackUptoRow.holds Tryd.pinned (OpenSpec.upto lineBackSpec)

end Rows
end Go.Proofs.YtmanflfanoddgaaDoor
