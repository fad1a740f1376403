/-
  Contracts of a journal's sectors: the log's sectors from the place on, one by one.
-/
import Derived.Test.YtcieahfhpanogaaJApply
import Derived.Test.YtcieahfhpanogaaJStill
namespace Go.Proofs.Ytcieahfhpanogaa
open Go.RowKit Go.Shelf
attribute [local go_sem] Oper.semAt_some

/-- The first k numbers below N. -/
def fins (N : Nat) : Nat → List (Fin N)
  | 0 => []
  | k + 1 => fins N k ++ (if h : k < N then [⟨k, h⟩] else [])
theorem fins_succ {N k : Nat} (h : k < N) : fins N (k + 1) = fins N k ++ [⟨k, h⟩] := by simp [fins, h]
theorem fins_len {N : Nat} : ∀ k, k ≤ N → (fins N k).length = k
  | 0, _ => rfl
  | k + 1, h => by rw [fins_succ (by omega), List.length_append, fins_len k (by omega)]; rfl
/-- What a round keeps: blocks of K, and the log's size and place of the journal at p. -/
structure KpJ (p : Nat) (K : Nat → Prop) (W W' : World) : Prop where
  keep : Keep K W W'
  lg : W'.cell? ⟨p, 1, none⟩ = W.cell? ⟨p, 1, none⟩
  pl : W'.cell? ⟨p, 4, none⟩ = W.cell? ⟨p, 4, none⟩
theorem KpJ.refl (p : Nat) (K : Nat → Prop) (W : World) : KpJ p K W W := ⟨Keep.refl _ _, rfl, rfl⟩
theorem KpJ.trans {p : Nat} {K : Nat → Prop} {A B C : World} (h : KpJ p K A B) (k : KpJ p K B C) : KpJ p K A C := ⟨h.keep.trans k.keep, k.lg.trans h.lg, k.pl.trans h.pl⟩

theorem sectors_in (F : Fence) (n : Nat) (h43 : F.fn 43) (hro : F.round = none) (p : Nat) (N : Int) (w : World) :
    CallsIn F n Try.prog 43 #[.pointer (some ⟨p, 0, none⟩), .int .i64 N] w fun e w' =>
      e = .returned (.func (.func 55) #[] #[.pointer (some ⟨w.heap.size + 1, 0, none⟩), .pointer (some ⟨w.heap.size, 0, none⟩)]) ∧ w' = (w.alloc (.cells #[.pointer (some ⟨p, 0, none⟩)] 30)).alloc (.cells #[.int .i64 N] 3) := by
  refine callsIn_of_wp Try.func43 rfl h43 ?_ hro
  simp only [Try.ntmps43, List.size_toArray, List.length_cons, List.length_nil, Nat.reduceAdd, Nat.reduceSub, Array.replicate_succ, Array.replicate_zero, List.push_toArray, List.append_toArray, List.nil_append, List.cons_append]
  gi_wp2
  go_ret
  exact ⟨rfl, rfl⟩

/-- The sector of a place. -/
def secAt (log place k : Nat) : Int := 1 + (((place + k) % log : Nat) : Int)

set_option maxRecDepth 100000 in
set_option maxHeartbeats 2000000 in
theorem sectors1_in (n : Nat) (l Bn Bp p N log place : Nat) (K : Nat → Prop) (J Jx : List (Fin N) → World → Prop) (hA : ∀ s W, J s W → J s W.drew)
    (hY : ∀ pre (x : Fin N) W, J pre W → pre.length < N → YieldAt Fence.wide (n - 1) Try.prog l #[.int .i64 (x.1 : Int), .int .i64 (secAt log place x.1)] W fun e W' =>
      (e = .returned (.bool true) ∧ J (pre ++ [x]) W' ∧ KpJ p K W W') ∨ (e = .returned (.bool false) ∧ Jx (pre ++ [x]) W'))
    (W : World) (hBn : W.cell? ⟨Bn, 0, none⟩ = some (.int .i64 (N : Int))) (hBp : W.cell? ⟨Bp, 0, none⟩ = some (.pointer (some ⟨p, 0, none⟩))) (hl : W.cell? ⟨p, 1, none⟩ = some (.int .i64 (log : Int))) (hp : W.cell? ⟨p, 4, none⟩ = some (.int .i64 (place : Int))) (hKp : K Bp)
    (hN : N ≤ 1000) (hlog : 0 < log) (hl2 : log ≤ 1000) (hpl : place ≤ 1000) (h0 : J [] W) :
    CallsIn Fence.wide n Try.prog 55 #[.func (.yield l) #[] #[], .pointer (some ⟨Bn, 0, none⟩), .pointer (some ⟨Bp, 0, none⟩)] W fun e W' => (∃ v, e = .returned v) ∧
      ((∃ ys, ys = fins N N ∧ J ys W') ∨ (∃ pre, (∃ k, k < N ∧ pre = fins N (k + 1)) ∧ Jx pre W')) := by
  have HBp := Lib.hid hBp
  have HL := Lib.hid hl
  have HP := Lib.hid hp
  clear hBp hl hp
  refine callsIn_of_wp Try.func55 rfl trivial ?_ rfl
  simp only [Try.ntmps55, List.size_toArray, List.length_cons, List.length_nil, Nat.reduceAdd, Nat.reduceSub, Array.replicate_succ, Array.replicate_zero, List.push_toArray, List.append_toArray, List.nil_append, List.cons_append]
  gi_wp2
  gi_loopw [6] (fun i wr => ∃ k : Nat, k ≤ N ∧ i = .int .i64 k ∧ J (fins N k) wr ∧ Hid (KpJ p K W wr)) (fun i _ => N - (intOf i).toNat)
  case atStart => exact ⟨0, Nat.zero_le _, rfl, h0, KpJ.refl _ _ _⟩
  case round =>
    clear hBn
    obtain ⟨k, hk, rfl, hJs, HK⟩ := hrel
    by_cases hlt : k < N
    · have hbp : wr.cell? ⟨Bp, 0, none⟩ = some (.pointer (some ⟨p, 0, none⟩)) := (World.cell?_of_block (a := ⟨Bp, 0, none⟩) (HK.out.keep.block Bp hKp)).trans HBp.out
      have hc1 : wr.cell? ⟨p, 1, none⟩ = some (.int .i64 (log : Int)) := HK.out.lg.trans HL.out
      have hc4 : wr.cell? ⟨p, 4, none⟩ = some (.int .i64 (place : Int)) := HK.out.pl.trans HP.out
      have HFS := Lib.hid (fins_succ hlt)
      obtain ⟨fn, tmps, assign, body, hy, hR⟩ := hY _ ⟨k, hlt⟩ wr.drew (hA _ _ hJs) (by rw [fins_len k hk]; exact hlt)
      dsimp only at hy
      have hmod : ((place : Int) + (k : Int)).tmod (log : Int) = ((((place + k) % log : Nat)) : Int) := by
        rw [Int.tmod_eq_emod_of_nonneg (by omega)]
        push_cast
        rfl
      have hz0 : ¬ log = 0 := by omega
      have hz1 : (place + k) % log < log := Nat.mod_lt _ hlog
      unfold secAt at hy
      generalize (place + k) % log = m at *
      have hw1 : IntKind.i64.wrap ((place : Int) + (k : Int)) = (place : Int) + (k : Int) := by rw [IntKind.wrap_i64]; omega
      have hw2 : IntKind.i64.wrap (1 + (m : Int)) = 1 + (m : Int) := by rw [IntKind.wrap_i64]; omega
      clear HBp HL HP hY hJs h0
      gi_wp2
      with_reducible refine (wideF_wide _).region 14 (by kernel_rfl) (by kernel_rfl) (by kernel_rfl) ?_
      simp only [List.take_succ_cons, List.take_zero, List.drop_succ_cons, List.drop_zero]
      iterate 14 still_step
      refine wpStill_nil ?_
      change wpListIn _ _ _ _ _ _ _ (World.drew _)
      gi_wp2
      refine ⟨fun h => (by cases h), hR.mono ?_⟩
      rintro e W3 (⟨rfl, hJ3, hk3⟩ | ⟨rfl, hJx3⟩)
      · gi_wp2
        go_roundw
        case rel => exact ⟨k + 1, by omega, by simp, by rw [HFS.out]; exact hJ3, HK.out.trans ⟨(Keep.refl K wr).drew.trans hk3.keep, hk3.lg, hk3.pl⟩⟩
        case measure => simp [intOf]; omega
      · gi_wp2
        refine bodyPost_ret (results_none rfl _ _ _) rfl ?_
        exact ⟨⟨_, rfl⟩, .inr ⟨_, ⟨k, hlt, HFS.out.symm⟩, hJx3⟩⟩
    · obtain rfl : k = N := by omega
      gi_wp2
      go_end0
      exact ⟨⟨_, rfl⟩, .inl ⟨_, rfl, hJs⟩⟩

theorem sectors_stops (n : Nat) (Bn Bp p N log place : Nat) (K : Nat → Prop) (w : World) (hBn : w.cell? ⟨Bn, 0, none⟩ = some (.int .i64 (N : Int))) (hBp : w.cell? ⟨Bp, 0, none⟩ = some (.pointer (some ⟨p, 0, none⟩))) (hl : w.cell? ⟨p, 1, none⟩ = some (.int .i64 (log : Int))) (hp : w.cell? ⟨p, 4, none⟩ = some (.int .i64 (place : Int))) (hKp : K Bp)
    (hN : N ≤ 1000) (hlog : 0 < log) (hl2 : log ≤ 1000) (hpl : place ≤ 1000) :
    SeqStopsK Fence.wide n Try.prog 55 #[.pointer (some ⟨Bn, 0, none⟩), .pointer (some ⟨Bp, 0, none⟩)] (fun x : Fin N => #[Value.int .i64 (x.1 : Int), .int .i64 (secAt log place x.1)]) (KpJ p K) (fun ys => ys = fins N N) (fun pre => ∃ k, k < N ∧ pre = fins N (k + 1)) N w := fun l J Jx W hW hJ _ hY h0 =>
  sectors1_in n l Bn Bp p N log place K J Jx (fun s W h => hJ s W _ none h ⟨rfl, rfl, rfl, Nat.le_refl _, fun _ _ _ => rfl⟩ (fun _ e => by cases e)) hY W ((hW.cell (p := ⟨Bn, 0, none⟩) (World.block_lt_of_cell? w _ hBn)).trans hBn) ((hW.cell (p := ⟨Bp, 0, none⟩) (World.block_lt_of_cell? w _ hBp)).trans hBp)
    ((hW.cell (p := ⟨p, 1, none⟩) (World.block_lt_of_cell? w _ hl)).trans hl) ((hW.cell (p := ⟨p, 4, none⟩) (World.block_lt_of_cell? w _ hp)).trans hp) hKp hN hlog hl2 hpl h0
end Go.Proofs.Ytcieahfhpanogaa
