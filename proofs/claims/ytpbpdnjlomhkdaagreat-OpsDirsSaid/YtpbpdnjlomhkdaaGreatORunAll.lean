/-
  All operations by their numbers (layer 13).
-/
import Derived.Test.YtpbpdnjlomhkdaaGreatOOps6
import Derived.Test.YtpbpdnjlomhkdaaGreatOOps8
import Derived.Test.YtpbpdnjlomhkdaaGreatOOps9
import Derived.Test.YtpbpdnjlomhkdaaGreatOOps10
import Derived.Test.YtpbpdnjlomhkdaaGreatOOper
namespace Go.Proofs.YtpbpdnjlomhkdaaGreat
open Go.RowKit Go.Shelf

section
variable {w0 w w' : World} {p g k : Nat} {t u : Op.TT} {sl : Nat → Sl} {c : Cl} {B : Option Addr} {n d : Nat}
theorem run_any (h : RX w0 w p g k t sl c B n d (Op.rep0 c) none 0 0 none 0 0) (hs : Op.Sound t) (hw : c.Wide) (hdl : c.dt.length ≤ 1100) (h1 : 1 ≤ c.op) (h2 : c.op ≤ 16) :
    Calls Tryz.prog (opF c.op) #[.pointer (some ⟨p, 0, none⟩)] w (OutQ w0 p g k c B n d (Op.run t c)) := by
  have hd2 : c.dt.length ≤ 2000 := by omega
  unfold Op.run
  generalize c.op = o at h1 h2
  match o, h1, h2 with
  | 1, _, _ => exact lookup_any h hs
  | 2, _, _ => exact getattr_any h hs
  | 3, _, _ => exact setattr_any h hs hw.cnt
  | 4, _, _ => exact read_any h hs hw.cnt
  | 5, _, _ => exact write_any h hs hd2 hw.off
  | 6, _, _ => exact create_any h hs hw.vf
  | 7, _, _ => exact mkdir_any h hs
  | 8, _, _ => exact symlink_any h hs hd2
  | 9, _, _ => exact readlink_any h hs
  | 10, _, _ => exact oremove_any h hs
  | 11, _, _ => exact ormdir_any h hs
  | 12, _, _ => exact rename_any h hs
  | 13, _, _ => exact link_any h hs
  | 14, _, _ => exact readdir_any h hs hw.cnt
  | 15, _, _ => exact fsstat_any h hs
  | 16, _, _ => exact commit_any h hs
  | o + 17, _, h => omega
end
end Go.Proofs.YtpbpdnjlomhkdaaGreat
