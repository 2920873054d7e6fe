/- The document's Sum answers the sum. -/
import Derived.Test.YtebkgmjmjmaleaaXSum
import Derived.Test.YtebkgmjmjmaleaaWBlock
import Derived.Test.YtebkgmjmjmaleaaLBytes
namespace Go.Proofs.Ytebkgmjmjmaleaa

theorem ref_sum : RefSum := fun ao n c ys w hr hn => rsum_gen block_any ao n c ys w hr hn

end Go.Proofs.Ytebkgmjmjmaleaa
