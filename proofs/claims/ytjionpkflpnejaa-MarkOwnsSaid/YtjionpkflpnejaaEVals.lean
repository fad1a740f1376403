
/-
  Contracts of slices.Values at entries, of the function that it returns, and of package dir's from (layer 8).
-/
import Derived.Test.YtjionpkflpnejaaERem
import Derived.Test.YtjionpkflpnejaaDStill
import Derived.RangeFuncNested
import Derived.RangeFuncBound
import Derived.RangeFuncCalls
import Derived.RangeFuncLeaves
import Derived.RangeFuncWrites
import Derived.Shelf.Abstract
import Derived.Shelf.RegionOpen
import Derived.OwnWalkIn
import Derived.TacticsInMore
import Derived.LoopNIn
import Derived.LoopIn
namespace Go.Proofs.Ytjionpkflpnejaa
open Go.RowKit Go.Shelf
attribute [local go_sem] Oper.semAt_some

theorem ES.keepK {K : Nat → Prop} {w w' : World} {A : Option Addr} {n : Nat} {es : List En} (h : ES w A n es) (hk : Keep K w w') (hA : 0 < n → ∀ ad, A = some ad → K ad.block) : ES w' A n es :=
  ⟨h.1, fun hn => by
    obtain ⟨b, o, e, hc⟩ := h.2 hn
    exact ⟨b, o, e, fun j hj i v hv => (World.cell?_of_block (hk.block b (hA hn _ e))).trans (hc j hj i v hv)⟩⟩
theorem EB.load {w : World} {g : Nat} {t : TypeId} {e : En} (h : EB w g t e) : ∀ j u, (ec e)[j]? = some u → w.cell? ((⟨g, 0, none⟩ : Addr).add j) = some u := fun j u hu => by
  rw [add_plain, Nat.zero_add]
  exact h.cell j u hu
theorem Keep.bel {K : Nat → Prop} {a w w' : World} (h : Keep K a w) (hK : ∀ k, K k → k < a.heap.size) (hb : Below w.heap.size w w') : Keep K a w' :=
  h.trans ⟨hb.os, hb.tape, hb.output, hb.size, fun k hk => hb.block k (Nat.lt_of_lt_of_le (hK k hk) h.size)⟩

end Go.Proofs.Ytjionpkflpnejaa
