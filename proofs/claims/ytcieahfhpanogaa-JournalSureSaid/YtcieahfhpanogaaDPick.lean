/-
  The bits of a selection, and the contracts of picked and of the function that it returns (layer 3).
-/
import Derived.Test.YtcieahfhpanogaaDWrite2
import Derived.RangeFuncNested
import Derived.RangeFuncBound
import Derived.RangeFuncCalls
import Derived.RangeFuncLeaves
import Derived.Shelf.Abstract
import Derived.Shelf.RegionOpen
import Derived.OwnWalkIn
import Derived.TacticsInMore
import Derived.LoopNIn
import Derived.LoopIn
namespace Go.Proofs.Ytcieahfhpanogaa
open Go.RowKit Go.Shelf
attribute [local go_sem] Oper.semAt_some

/-- The i-th dbit of bytes. -/
def dbit (L : List UInt8) (i : Nat) : Bool := match L[i / 8]? with
  | some b => decide (b.toNat / 2 ^ (i % 8) % 2 = 1)
  | none => false
theorem bit_none {L : List UInt8} {i : Nat} (h : L.length ≤ i / 8) : dbit L i = false := by simp [dbit, List.getElem?_eq_none h]
/-- The first k numbers below N whose bits are set. -/
def picks (L : List UInt8) (N : Nat) : Nat → List (Fin N)
  | 0 => []
  | k + 1 => if h : k < N then (if dbit L k then picks L N k ++ [⟨k, h⟩] else picks L N k) else picks L N k
theorem picks_len (L : List UInt8) (N k : Nat) : (picks L N k).length ≤ k := by
  induction k with
  | zero => simp [picks]
  | succ k ih =>
    unfold picks
    split
    · split
      · simp; omega
      · omega
    · omega
theorem picks_yes {L : List UInt8} {N k : Nat} (h : k < N) (hb : dbit L k = true) : picks L N (k + 1) = picks L N k ++ [⟨k, h⟩] := by simp [picks, h, hb]
theorem picks_no {L : List UInt8} {N k : Nat} (hb : dbit L k = false) : picks L N (k + 1) = picks L N k := by simp [picks, hb]
theorem picks_end {L : List UInt8} {N k : Nat} (h : L.length ≤ k / 8) : ∀ d, picks L N (k + d) = picks L N k
  | 0 => rfl
  | d + 1 => by
    rw [show k + (d + 1) = (k + d) + 1 by omega, picks_no (bit_none (by omega)), picks_end h d]

theorem BS.keepK {K : Nat → Prop} {w w' : World} {A : Option Addr} {n : Nat} {l : List UInt8} (h : BS w A n l) (hk : Keep K w w') (hA : 0 < n → ∀ ad, A = some ad → K ad.block) : BS w' A n l :=
  ⟨h.1, fun hn => by
    obtain ⟨b, o, e, hc⟩ := h.2 hn
    exact ⟨b, o, e, fun j hj => (World.cell?_of_block (hk.block b (hA hn _ e))).trans (hc j hj)⟩⟩

theorem and_one_u8 : ∀ x : Fin 256, Go.bits BinOp.and IntKind.u8 (x.1 : Int) 1 = ((x.1 % 2 : Nat) : Int) := by decide +kernel
theorem bit_and (b : UInt8) (k : Nat) : (Go.bits BinOp.and IntKind.u8 ((b.toNat : Int) / 2 ^ k) 1 == 1) = decide (b.toNat / 2 ^ k % 2 = 1) := by
  have h : b.toNat / 2 ^ k < 256 := Nat.lt_of_le_of_lt (Nat.div_le_self _ _) b.toNat_lt
  have e : ((b.toNat : Int) / 2 ^ k) = ((b.toNat / 2 ^ k : Nat) : Int) := by simp
  rw [e, and_one_u8 ⟨b.toNat / 2 ^ k, h⟩]
  generalize b.toNat / 2 ^ k % 2 = y
  by_cases hy : y = 1
  · simp [hy]
  · have : ¬ ((y : Int) = 1) := by omega
    simp [hy, this]
theorem bit_at {L : List UInt8} {k : Nat} (h : k / 8 < L.length) : (Go.bits BinOp.and IntKind.u8 ((L[k / 8].toNat : Int) / 2 ^ (k % 8)) 1 == 1) = dbit L k := by
  rw [bit_and]
  simp [dbit, h]

theorem picked_in (F : Fence) (n : Nat) (h33 : F.fn 34) (hro : F.round = none) (A : Option Addr) (m c : Nat) (N : Int) (w : World) :
    CallsIn F n Try.prog 34 #[.slice A m c, .int .i64 N] w fun e w' =>
      e = .returned (.func (.func 44) #[] #[.pointer (some ⟨w.heap.size + 1, 0, none⟩), .pointer (some ⟨w.heap.size, 0, none⟩)]) ∧ w' = (w.alloc (.cells #[.slice A m c] 23)).alloc (.cells #[.int .i64 N] 3) := by
  refine callsIn_of_wp Try.func34 rfl h33 ?_ hro
  simp only [Try.ntmps34, List.size_toArray, List.length_cons, List.length_nil, Nat.reduceAdd, Nat.reduceSub, Array.replicate_succ, Array.replicate_zero, List.push_toArray, List.append_toArray, List.nil_append, List.cons_append]
  gi_wp2
  go_ret
  exact ⟨rfl, rfl⟩

set_option maxRecDepth 100000 in
set_option maxHeartbeats 2000000 in
theorem picked1_in (F : Fence) (n : Nat) (h36 : F.fn 44) (hro : F.round = none) (hn : 1 ≤ n) (l Bn Bp N : Nat) (A : Option Addr) (m c : Nat) (L : List UInt8) (K : Nat → Prop) (J Jx : List (Fin N) → World → Prop)
    (hY : ∀ pre (x : Fin N) W, J pre W → pre.length < N → YieldAt F (n - 1) Try.prog l #[.int .i64 (x.1 : Int)] W fun e W' =>
      (e = .returned (.bool true) ∧ J (pre ++ [x]) W' ∧ Keep K W W') ∨ (e = .returned (.bool false) ∧ Jx (pre ++ [x]) W'))
    (W : World) (hBn : W.cell? ⟨Bn, 0, none⟩ = some (.int .i64 (N : Int))) (hBp : W.cell? ⟨Bp, 0, none⟩ = some (.slice A m c)) (hL : BS W A m L) (hKp : K Bp) (hKA : 0 < m → ∀ ad, A = some ad → K ad.block) (hN : N ≤ 1000000) (hm : m ≤ maxLen) (h0 : J [] W) :
    CallsIn F n Try.prog 44 #[.func (.yield l) #[] #[], .pointer (some ⟨Bn, 0, none⟩), .pointer (some ⟨Bp, 0, none⟩)] W fun e W' => (∃ v, e = .returned v) ∧
      ((∃ ys, ys = picks L N N ∧ J ys W') ∨ (∃ pre, True ∧ Jx pre W')) := by
  unfold maxLen at hm
  have HL := Lib.hid hL
  have HKA := Lib.hid hKA
  have HBp := Lib.hid hBp
  clear hL hKA hBp
  refine callsIn_of_wp Try.func44 rfl h36 ?_ hro
  simp only [Try.ntmps44, List.size_toArray, List.length_cons, List.length_nil, Nat.reduceAdd, Nat.reduceSub, Array.replicate_succ, Array.replicate_zero, List.push_toArray, List.append_toArray, List.nil_append, List.cons_append]
  gi_wp2
  gi_loopw [6] (fun i wr => ∃ k : Nat, k ≤ N ∧ i = .int .i64 k ∧ J (picks L N k) wr ∧ Hid (Keep K W wr)) (fun i _ => N - (intOf i).toNat)
  case atStart => exact ⟨0, Nat.zero_le _, rfl, h0, Keep.refl _ _⟩
  case round =>
    clear hBn
    obtain ⟨k, hk, rfl, hJs, HK⟩ := hrel
    by_cases hlt : k < N
    · have hbp : wr.cell? ⟨Bp, 0, none⟩ = some (.slice A m c) := (World.cell?_of_block (a := ⟨Bp, 0, none⟩) (HK.out.block Bp hKp)).trans HBp.out
      have HLr : Hid (BS wr A m L) := HL.out.keepK HK.out HKA.out
      by_cases hq : k / 8 < m
      · obtain ⟨b, o, rfl, hj, hcell⟩ := HLr.out.at hq
        have hqi : (k : Int) / 8 < (m : Int) := by omega
        have hba := bit_at hj
        cases hb : dbit L k with
        | true =>
          rw [hb] at hba
          have HP := Lib.hid (picks_yes hlt hb)
          obtain ⟨fn, tmps, assign, body, hy, hR⟩ := hY _ ⟨k, hlt⟩ wr hJs (Nat.lt_of_le_of_lt (picks_len L N k) hlt)
          dsimp only at hy
          clear hb HL HLr HKA HBp hY hJs h0
          gi_wp2
          refine hR.mono ?_
          rintro e W3 (⟨rfl, hJ3, hk3⟩ | ⟨rfl, hJx3⟩)
          · gi_wp2
            go_roundw
            case rel => exact ⟨k + 1, by omega, by simp, by rw [HP.out]; exact hJ3, HK.out.trans hk3⟩
            case measure => simp [intOf]; omega
          · gi_wp2
            refine bodyPost_ret (results_none rfl _ _ _) rfl ?_
            exact ⟨⟨_, rfl⟩, .inr ⟨_, trivial, hJx3⟩⟩
        | false =>
          rw [hb] at hba
          have HP := Lib.hid (picks_no (N := N) hb)
          have HJ := Lib.hid hJs
          clear hb HL HLr HKA HBp hY hJs h0
          gi_wp2
          refine ⟨fun _ h => (by cases h), ?_⟩
          gi_wp2
          go_roundw
          case rel => exact ⟨k + 1, by omega, by simp, by rw [HP.out]; exact HJ.out, HK⟩
          case measure => simp [intOf]; omega
      · have hqi : (m : Int) ≤ (k : Int) / 8 := by omega
        have HP : Hid (picks L N N = picks L N k) := by
          show _ = _
          have := picks_end (N := N) (show L.length ≤ k / 8 by rw [HLr.out.1]; omega) (N - k)
          rwa [show k + (N - k) = N by omega] at this
        have HJ := Lib.hid hJs
        clear HL HLr HKA HBp hY hJs h0 hq
        gi_wp2
        refine bodyPost_ret (results_none rfl _ _ _) rfl ?_
        exact ⟨⟨_, rfl⟩, .inl ⟨_, rfl, by rw [HP.out]; exact HJ.out⟩⟩
    · obtain rfl : k = N := by omega
      gi_wp2
      go_end0
      exact ⟨⟨_, rfl⟩, .inl ⟨_, rfl, hJs⟩⟩

theorem picked_stops (F : Fence) (n : Nat) (h36 : F.fn 44) (hro : F.round = none) (hn : 1 ≤ n) (Bn Bp N : Nat) (A : Option Addr) (m c : Nat) (L : List UInt8) (K : Nat → Prop) (w : World)
    (hBn : w.cell? ⟨Bn, 0, none⟩ = some (.int .i64 (N : Int))) (hBp : w.cell? ⟨Bp, 0, none⟩ = some (.slice A m c)) (hL : BS w A m L) (hKp : K Bp) (hKA : 0 < m → ∀ ad, A = some ad → K ad.block) (hN : N ≤ 1000000) (hm : m ≤ maxLen) (hbn : Bn < w.heap.size) (hbp : Bp < w.heap.size) :
    SeqStopsK F n Try.prog 44 #[.pointer (some ⟨Bn, 0, none⟩), .pointer (some ⟨Bp, 0, none⟩)] (fun x : Fin N => #[Value.int .i64 (x.1 : Int)]) (Keep K) (fun ys => ys = picks L N N) (fun _ => True) N w := fun l J Jx W hW _ _ hY h0 =>
  picked1_in F n h36 hro hn l Bn Bp N A m c L K J Jx hY W ((hW.cell (p := ⟨Bn, 0, none⟩) hbn).trans hBn) ((hW.cell (p := ⟨Bp, 0, none⟩) hbp).trans hBp) (hL.below hW) hKp hKA hN hm h0
end Go.Proofs.Ytcieahfhpanogaa
