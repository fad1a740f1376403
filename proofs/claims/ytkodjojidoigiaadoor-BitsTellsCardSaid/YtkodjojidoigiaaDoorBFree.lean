/-
  Contracts of bits' free and of the function that it returns (layer 6).
-/
import Derived.Test.YtkodjojidoigiaaDoorBCount
import Derived.RangeFuncNested
import Derived.RangeFuncBound
import Derived.RangeFuncCalls
import Derived.RangeFuncLeaves
import Derived.RangeFuncWrites
import Derived.Shelf.Abstract
import Derived.Shelf.RegionOpen
import Derived.OwnWalkIn
import Derived.TacticsInMore
import Derived.LoopNIn
import Derived.LoopIn
namespace Go.Proofs.YtkodjojidoigiaaDoor
open Go.RowKit Go.Shelf
attribute [local go_sem] Oper.semAt_some

set_option maxHeartbeats 400000 in
theorem free_any (A : Option Addr) (m c : Nat) (N : Int) (w : World) :
    Calls Tryd.prog 18 #[.slice A m c, .int .i64 N] w fun e w' =>
      e = .returned (.func (.func 24) #[] #[.pointer (some ⟨w.heap.size + 1, 0, none⟩), .pointer (some ⟨w.heap.size, 0, none⟩)]) ∧ w' = (w.alloc (.cells #[.slice A m c] 22)).alloc (.cells #[.int .i64 N] 3) := by
  go_enter Tryd.func18, Tryd.ntmps18
  go_wp2
  go_ret
  exact ⟨rfl, rfl⟩

theorem BS.keepK {K : Nat → Prop} {w w' : World} {A : Option Addr} {n : Nat} {l : List UInt8} (h : BS w A n l) (hk : Keep K w w') (hA : 0 < n → ∀ ad, A = some ad → K ad.block) : BS w' A n l :=
  ⟨h.1, fun hn => by
    obtain ⟨b, o, e, hc⟩ := h.2 hn
    exact ⟨b, o, e, fun j hj => (World.cell?_of_block (hk.block b (hA hn _ e))).trans (hc j hj)⟩⟩
theorem Bt.fr_len_le (l : List UInt8) (k : Nat) : (Bt.fr l k).length ≤ k := by have := Bt.fr_cnt l k; omega
theorem Bt.fr_pre (l : List UInt8) {k n : Nat} (h : k ≤ n) : ∃ r, Bt.fr l n = Bt.fr l k ++ r := by
  have := Bt.fr_mono l k (n - k)
  rwa [show k + (n - k) = n by omega] at this
theorem Bt.fr_yes {l : List UInt8} {k : Nat} (h : Bt.has l k = false) : Bt.fr l (k + 1) = Bt.fr l k ++ [k] := by rw [Bt.fr_succ, h]; rfl
theorem Bt.fr_no {l : List UInt8} {k : Nat} (h : Bt.has l k = true) : Bt.fr l (k + 1) = Bt.fr l k := by rw [Bt.fr_succ, h]; simp
theorem grownBy_drewN (w : World) (d : Nat) : w.grownBy (w.drewN d) none := ⟨rfl, rfl, rfl, Nat.le_refl _, fun _ _ _ => rfl⟩

set_option maxRecDepth 100000 in
set_option maxHeartbeats 2000000 in
theorem free1_in (n : Nat) (hn : 1 ≤ n) (l Bn Bp : Nat) (NI : Int) (N : Nat) (hNI : NI.toNat = N) (A : Option Addr) (m c : Nat) (L : List UInt8) (K : Nat → Prop) (J Jx : List Nat → World → Prop)
    (hY : ∀ pre (x : Nat) W, J pre W → pre.length < N → YieldAt Fence.wide (n - 1) Tryd.prog l #[.int .i64 (x : Int)] W fun e W' =>
      (e = .returned (.bool true) ∧ J (pre ++ [x]) W' ∧ Keep K W W') ∨ (e = .returned (.bool false) ∧ Jx (pre ++ [x]) W'))
    (W : World) (hJ : AbidesFrom W.heap.size J) (hBn : W.cell? ⟨Bn, 0, none⟩ = some (.int .i64 NI)) (hBp : W.cell? ⟨Bp, 0, none⟩ = some (.slice A m c)) (hL : BS W A m L) (hKp : K Bp) (hKA : 0 < m → ∀ ad, A = some ad → K ad.block) (hN : N ≤ 1000000) (hm : m ≤ 1000000) (h0 : J [] W) :
    CallsIn Fence.wide n Tryd.prog 24 #[.func (.yield l) #[] #[], .pointer (some ⟨Bn, 0, none⟩), .pointer (some ⟨Bp, 0, none⟩)] W fun e W' => (∃ v, e = .returned v) ∧
      ((∃ ys, ys = Bt.fr L N ∧ J ys W') ∨ (∃ pre, (∃ r, Bt.fr L N = pre ++ r) ∧ Jx pre W')) := by
  have HL := Lib.hid hL
  have HKA := Lib.hid hKA
  have HBp := Lib.hid hBp
  have HJD : Hid (∀ pre V d, J pre V → J pre (V.drewN d)) := fun pre V d h => hJ pre V _ none h (grownBy_drewN V d) (fun r e => by cases e)
  clear hL hKA hBp hJ
  refine callsIn_of_wp Tryd.func24 rfl trivial ?_ rfl
  simp only [Tryd.ntmps24, List.size_toArray, List.length_cons, List.length_nil, Nat.reduceAdd, Nat.reduceSub, Array.replicate_succ, Array.replicate_zero, List.push_toArray, List.append_toArray, List.nil_append, List.cons_append]
  gi_wp2
  gi_loopw [6] (fun i wr => ∃ k : Nat, k ≤ N ∧ i = .int .i64 k ∧ J (Bt.fr L k) wr ∧ Hid (Keep K W wr)) (fun i _ => N - (intOf i).toNat)
  case atStart => exact ⟨0, Nat.zero_le _, rfl, h0, Keep.refl _ _⟩
  case round =>
    clear hBn
    obtain ⟨k, hk, rfl, hJs, HK⟩ := hrel
    have HNI := Lib.hid hNI
    clear hNI
    by_cases hlt : k < N
    · have hlt' : (k : Int) < NI := by have := HNI.out; omega
      have hbp : wr.cell? ⟨Bp, 0, none⟩ = some (.slice A m c) := (World.cell?_of_block (a := ⟨Bp, 0, none⟩) (HK.out.block Bp hKp)).trans HBp.out
      have HLr : Hid (BS wr A m L) := HL.out.keepK HK.out HKA.out
      have HJs := Lib.hid hJs
      have HY := Lib.hid hY
      clear hJs hY h0
      gi_wp2_with (refine ⟨trivial, ?_⟩; gi_at_call 11)
      refine (callsIn_wide.2 (has_any A m c L k wr HLr.out (by omega) (by omega))).mono ?_
      rintro e w2 ⟨rfl, d, rfl⟩
      rw [Bt.hasI_nat]
      have HK2 : Hid (Keep K W (wr.drewN d)) := HK.out.drewN d
      cases hb : Bt.has L k with
      | false =>
        have HP := Lib.hid (Bt.fr_yes hb)
        obtain ⟨fn, tmps, assign, body, hy, hR⟩ := HY.out _ k _ (HJD.out _ _ d HJs.out) (Nat.lt_of_le_of_lt (Bt.fr_len_le L k) hlt)
        have HR := Lib.hid hR
        clear hb HL HLr HKA HBp HJs HY hR hbp
        gi_wp2
        refine HR.out.mono ?_
        rintro e W3 (⟨rfl, hJ3, hk3⟩ | ⟨rfl, hJx3⟩)
        · gi_wp2
          go_roundw
          case rel => exact ⟨k + 1, by omega, by simp, by rw [HP.out]; exact hJ3, HK2.out.trans hk3⟩
          case measure => simp [intOf]; omega
        · gi_wp2
          refine bodyPost_ret (results_none rfl _ _ _) rfl ?_
          have HQ := Bt.fr_pre L (show k + 1 ≤ N by omega)
          rw [HP.out] at HQ
          exact ⟨⟨_, rfl⟩, .inr ⟨_, HQ, hJx3⟩⟩
      | true =>
        have HP := Lib.hid (Bt.fr_no hb)
        clear hb HL HLr HKA HBp HY hbp
        gi_wp2
        refine ⟨fun _ h => (by cases h), ?_⟩
        gi_wp2
        go_roundw
        case rel => exact ⟨k + 1, by omega, by simp, by rw [HP.out]; exact HJD.out _ _ d HJs.out, HK2⟩
        case measure => simp [intOf]; omega
    · have hlt' : NI ≤ (k : Int) := by have := HNI.out; omega
      obtain rfl : k = N := by omega
      gi_wp2
      go_end0
      exact ⟨⟨_, rfl⟩, .inl ⟨_, rfl, hJs⟩⟩

theorem free_stops (n : Nat) (hn : 1 ≤ n) (Bn Bp : Nat) (NI : Int) (N : Nat) (hNI : NI.toNat = N) (A : Option Addr) (m c : Nat) (L : List UInt8) (K : Nat → Prop) (w : World)
    (hBn : w.cell? ⟨Bn, 0, none⟩ = some (.int .i64 NI)) (hBp : w.cell? ⟨Bp, 0, none⟩ = some (.slice A m c)) (hL : BS w A m L) (hKp : K Bp) (hKA : 0 < m → ∀ ad, A = some ad → K ad.block) (hN : N ≤ 1000000) (hm : m ≤ 1000000) (hbn : Bn < w.heap.size) (hbp : Bp < w.heap.size) :
    SeqStopsK Fence.wide n Tryd.prog 24 #[.pointer (some ⟨Bn, 0, none⟩), .pointer (some ⟨Bp, 0, none⟩)] (fun x : Nat => #[Value.int .i64 (x : Int)]) (Keep K) (fun ys => ys = Bt.fr L N) (fun pre => ∃ r, Bt.fr L N = pre ++ r) N w := fun l J Jx W hW hJ _ hY h0 =>
  free1_in n hn l Bn Bp NI N hNI A m c L K J Jx hY W hJ ((hW.cell (p := ⟨Bn, 0, none⟩) hbn).trans hBn) ((hW.cell (p := ⟨Bp, 0, none⟩) hbp).trans hBp) (hL.below hW) hKp hKA hN hm h0
end Go.Proofs.YtkodjojidoigiaaDoor
