/-
  Contracts of slices.Values at entries, of the function that it returns, and of package dir's from (layer 8).
-/
import Derived.Test.YtcbmdcgaedkfnaaERem
import Derived.Test.YtcbmdcgaedkfnaaDStill
import Derived.RangeFuncNested
import Derived.RangeFuncBound
import Derived.RangeFuncCalls
import Derived.RangeFuncLeaves
import Derived.RangeFuncWrites
import Derived.Shelf.Abstract
import Derived.Shelf.RegionOpen
import Derived.OwnWalkIn
import Derived.TacticsInMore
import Derived.LoopNIn
import Derived.LoopIn
namespace Go.Proofs.Ytcbmdcgaedkfnaa
open Go.RowKit Go.Shelf
attribute [local go_sem] Oper.semAt_some

theorem ES.keepK {K : Nat → Prop} {w w' : World} {A : Option Addr} {n : Nat} {es : List En} (h : ES w A n es) (hk : Keep K w w') (hA : 0 < n → ∀ ad, A = some ad → K ad.block) : ES w' A n es :=
  ⟨h.1, fun hn => by
    obtain ⟨b, o, e, hc⟩ := h.2 hn
    exact ⟨b, o, e, fun j hj i v hv => (World.cell?_of_block (hk.block b (hA hn _ e))).trans (hc j hj i v hv)⟩⟩
theorem EB.load {w : World} {g : Nat} {t : TypeId} {e : En} (h : EB w g t e) : ∀ j u, (ec e)[j]? = some u → w.cell? ((⟨g, 0, none⟩ : Addr).add j) = some u := fun j u hu => by
  rw [add_plain, Nat.zero_add]
  exact h.cell j u hu
theorem Keep.bel {K : Nat → Prop} {a w w' : World} (h : Keep K a w) (hK : ∀ k, K k → k < a.heap.size) (hb : Below w.heap.size w w') : Keep K a w' :=
  h.trans ⟨hb.os, hb.tape, hb.output, hb.size, fun k hk => hb.block k (Nat.lt_of_lt_of_le (hK k hk) h.size)⟩

set_option maxHeartbeats 400000 in
theorem values_any (A : Option Addr) (m c : Nat) (w : World) :
    Calls Try.prog 65 #[.slice A m c] w fun e w' =>
      e = .returned (.func (.func 70) #[] #[.pointer (some ⟨w.heap.size, 0, none⟩)]) ∧ w' = w.alloc (.cells #[.slice A m c] 24) := by
  go_enter Try.func65, Try.ntmps65
  go_wp2
  go_ret
  exact ⟨rfl, rfl⟩

set_option maxRecDepth 100000 in
set_option maxHeartbeats 2000000 in
theorem vals1_in (n : Nat) (hn : 1 ≤ n) (l Bs : Nat) (A : Option Addr) (m c : Nat) (es : List En) (K : Nat → Prop) (J Jx : List En → World → Prop)
    (hY : ∀ pre (x : En) W, J pre W → pre.length < es.length → YieldAt Fence.wide (n - 1) Try.prog l #[.agg (ec x).toArray] W fun e W' =>
      (e = .returned (.bool true) ∧ J (pre ++ [x]) W' ∧ Keep K W W') ∨ (e = .returned (.bool false) ∧ Jx (pre ++ [x]) W'))
    (W : World) (hJ : AbidesFrom W.heap.size J) (hBs : W.cell? ⟨Bs, 0, none⟩ = some (.slice A m c)) (hE : ES W A m es) (hKA : 0 < m → ∀ ad, A = some ad → K ad.block) (hKl : ∀ k, K k → k < W.heap.size) (hm : m ≤ 100000000) (h0 : J [] W) :
    CallsIn Fence.wide n Try.prog 70 #[.func (.yield l) #[] #[], .pointer (some ⟨Bs, 0, none⟩)] W fun e W' => (∃ v, e = .returned v) ∧
      ((∃ ys, ys = es ∧ J ys W') ∨ (∃ pre, (∃ r, es = pre ++ r) ∧ Jx pre W')) := by
  have HE := Lib.hid hE
  have HN : Hid (es.length = m) := hE.1
  have HKA := Lib.hid hKA
  have HKl := Lib.hid hKl
  have HJB : Hid (∀ pre V V', J pre V → Below V.heap.size V V' → J pre V') := fun pre V V' h hb => hJ pre V V' none h (below_grown hb) (fun r e => by cases e)
  clear hE hKA hKl hJ
  refine callsIn_of_wp Try.func70 rfl trivial ?_ rfl
  simp only [Try.ntmps70, List.size_toArray, List.length_cons, List.length_nil, Nat.reduceAdd, Nat.reduceSub, Array.replicate_succ, Array.replicate_zero, List.push_toArray, List.append_toArray, List.nil_append, List.cons_append]
  gi_wp2
  gi_loopw [7] (fun i wr => ∃ k : Nat, k ≤ m ∧ i = .int .i64 k ∧ Hid (J (es.take k) wr) ∧ Hid (Keep K W wr)) (fun i _ => m - (intOf i).toNat)
  case atStart => exact ⟨0, Nat.zero_le _, rfl, h0, Keep.refl _ _⟩
  case round =>
    clear hBs
    obtain ⟨k, hk, rfl, hJs, HK⟩ := hrel
    by_cases hlt : k < m
    · have HEr : Hid (ES wr A m es) := HE.out.keepK HK.out HKA.out
      obtain ⟨b, o, rfl, hb, hj, hc⟩ := HEr.out.load hlt
      have HC := Lib.hid hc
      have HT : Hid (es.take (k + 1) = es.take k ++ [es[k]]) := List.take_succ_eq_append_getElem hj
      have HPL : Hid ((es.take k).length < es.length) := by show _ < _; rw [List.length_take]; omega
      have HPR : Hid (∃ r, es = es.take (k + 1) ++ r) := ⟨es.drop (k + 1), (List.take_append_drop _ _).symm⟩
      have HY := Lib.hid hY
      rw [HT.out] at HPR
      clear hY h0 hc
      generalize es.take k = pre at *
      generalize es[k] = x at *
      gi_wp2_with (first
        | (refine Did.listIn rfl (by intro c h; cases h) (by intro c h; cases h) (did_load 41 (.tmp 9) rfl ⟨b, o + k * 4, none⟩ rfl _ Try.underlying41 rfl (ec x) size_E HC.out) ?_)
        | (refine wpListIn_alloc_any rfl 41 rfl _ zero_E ?_
           intro w1 hb1 hs1 hw1)
        | (refine wpListIn_store_any rfl 41 (.tmp 4) (.tmp 10) rfl wr.heap.size (ec x).toArray rfl rfl 41 _ hb1 size_E rfl (ec_one x) ?_
           intro w2 hb2 hs2 hw2
           have HBE := Lib.hid (box_E hw1 hb2 hw2)
           have HLD := Lib.hid HBE.out.1.load
           have HJ2 := Lib.hid (HJB.out _ _ _ hJs.out HBE.out.2)
           obtain ⟨fn, tmps, assign, body, hy, hR⟩ := HY.out _ x w2 HJ2.out HPL.out
           have HR := Lib.hid hR
           have HK2 := Lib.hid (HK.out.bel HKl.out HBE.out.2)
           clear hb1 hs1 hw1 hb2 hs2 hw2 hR)
        | (refine Did.listIn rfl (by intro c h; cases h) (by intro c h; cases h) (did_load 41 (.tmp 4) rfl ⟨wr.heap.size, 0, none⟩ rfl _ Try.underlying41 rfl (ec x) size_E HLD.out) ?_))
      refine HR.out.mono ?_
      rintro e W3 (⟨rfl, hJ3, hk3⟩ | ⟨rfl, hJx3⟩)
      · have HJ3 := Lib.hid hJ3
        have HK3 := Lib.hid (HK2.out.trans hk3)
        clear hJ3 hk3 hy
        gi_wp2
        go_roundw
        case rel => exact ⟨k + 1, by omega, by simp, by rw [HT.out]; exact HJ3.out, HK3.out⟩
        case measure => simp [intOf]; omega
      · have HJx3 := Lib.hid hJx3
        clear hJx3 hy
        gi_wp2
        refine bodyPost_ret (results_none rfl _ _ _) rfl ?_
        exact ⟨⟨_, rfl⟩, .inr ⟨_, HPR.out, HJx3.out⟩⟩
    · obtain rfl : k = m := by omega
      have HT : Hid (es.take k = es) := List.take_of_length_le (by have := HN.out; omega)
      rw [HT.out] at hJs
      gi_wp2
      go_end0
      exact ⟨⟨_, rfl⟩, .inl ⟨_, rfl, hJs.out⟩⟩
end Go.Proofs.Ytcbmdcgaedkfnaa
