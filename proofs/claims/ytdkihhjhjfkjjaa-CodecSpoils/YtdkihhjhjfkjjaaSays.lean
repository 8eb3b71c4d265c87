/-
  What the program's Encode and Decode say, and the chapter's examples.
-/
import Derived.Test.YtdkihhjhjfkjjaaEnc
import Derived.Test.YtdkihhjhjfkjjaaDdec
namespace Go.Proofs.Ytdkihhjhjfkjjaa
open Go.RowKit

theorem encSays : EncSays := fun g cs w hB hl hk => encode_c g cs w hB hl hk
theorem encNil : EncNil := fun w => encode_nil w
theorem decSays : DecSays := fun a n c bs w hB hn h6 => decode_c a n c bs w hB hn h6
theorem awakeSays : AwakeSays := awake_of encSays encNil decSays
end Go.Proofs.Ytdkihhjhjfkjjaa
