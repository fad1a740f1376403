/-
  Package ops, as the laws want it (layer 13).
-/
import Derived.Test.YtpbpdnjlomhkdaaGreatODo
import Derived.Test.YtpbpdnjlomhkdaaGreatOFormat
namespace Go.Proofs.YtpbpdnjlomhkdaaGreat
open Go.RowKit Go.Shelf

theorem pk : Pk where
  format := fun room w _ => format_any room w
  used := fun _ _ _ _ h hs => used_any h.ss hs.dts
  run := fun _ _ _ _ _ _ _ _ h hs hw _ _ hd hb hn => do_any h hs hw hd hb hn
end Go.Proofs.YtpbpdnjlomhkdaaGreat
