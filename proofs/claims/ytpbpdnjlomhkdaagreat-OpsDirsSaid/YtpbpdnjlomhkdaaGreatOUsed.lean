/-
  Contracts of Used, valid and resized (layer 13).
-/
import Derived.Test.YtpbpdnjlomhkdaaGreatOClone
namespace Go.Proofs.YtpbpdnjlomhkdaaGreat
open Go.RowKit Go.Shelf

/-- How many blocks, of any number. -/
def needO (x : Int) : Nat := if x < 1 then 0 else need x.toNat
set_option maxHeartbeats 1000000 in
theorem needO_any (x : Int) (w : World) (h0 : -9223372036854775808 ≤ x) (h1 : x ≤ 9223372036854775807) :
    Calls Tryz.prog 46 #[.int .i64 x] w fun e w' => e = .returned (.int .i64 (needO x : Int)) ∧ w = w' := by
  by_cases hx : x < 1
  · have HE : Hid (needO x = 0) := if_pos hx
    go_enter Tryz.func46, Tryz.ntmps46
    go_wp2
    go_ret
    rw [HE.out]
    exact ⟨rfl, rfl⟩
  · have HE : Hid (needO x = (x.toNat - 1) / 96 + 1) := by show _ = _; unfold needO; rw [if_neg hx, need_pos _ (by omega)]
    go_enter Tryz.func46, Tryz.ntmps46
    go_wp2
    go_ret
    rw [HE.out]
    exact ⟨ret_int (by omega), rfl⟩
theorem needO_nat (n : Nat) : needO (n : Int) = need n := by
  unfold needO
  split
  · have : n = 0 := by omega
    subst this
    rfl
  · rw [Int.toNat_natCast]
/-- As many blocks as the first k need. -/
def psum (S : Nat → Vl.Th) (k : Nat) : Nat := ((List.range k).map fun i => need (S i).dt.length).sum
theorem psum_succ (S : Nat → Vl.Th) (k : Nat) : psum S (k + 1) = psum S k + need (S k).dt.length := by
  unfold psum
  rw [List.range_succ, List.map_append, List.sum_append]
  simp
theorem psum_all (S : Nat → Vl.Th) : psum S 24 = Vl.tot S := rfl
theorem psum_le (S : Nat → Vl.Th) (h : ∀ i, i < 24 → (S i).dt.length ≤ 1000000) : ∀ k, k ≤ 24 → psum S k ≤ k * 10418
  | 0, _ => Nat.le_refl _
  | k + 1, hk => by
    have h1 := psum_le S h k (by omega)
    have h2 := h k (by omega)
    have h3 : need (S k).dt.length ≤ 10418 := by unfold need; omega
    rw [psum_succ]
    omega
theorem ss_at {w : World} {A : Option Addr} {N : Nat → Vl.Th} (h : SS w A 24 ((List.range 24).map N)) : ∃ b o, A = some ⟨b, o, none⟩ ∧ ∀ w', Below w.heap.size w w' → ∀ i, i < 24 → ∃ y : Sl, (∀ j u, (sc (N i) (.slice y.a y.n y.c))[j]? = some u → w'.cell? ((⟨b, o + i * 9, none⟩ : Addr).add j) = some u) ∧ BS w' y.a y.n (N i).dt := by
  obtain ⟨b, o, e, sl, hsl⟩ := h.all
  refine ⟨b, o, e, fun w' hb i hi => ⟨sl i, fun j u hu => ?_, (hsl i hi).2.1.below hb⟩⟩
  rw [add_plain]
  have := (hsl i hi).1 j u hu
  exact (hb.cell (World.block_lt_of_cell? w _ this)).trans this
set_option maxRecDepth 100000 in
set_option maxHeartbeats 4000000 in
theorem used_any {A : Option Addr} {c : Nat} {t : Op.TT} {w : World} (h : SS w A 24 ((List.range 24).map t.s)) (hn : ∀ i, i < 24 → (t.s i).dt.length ≤ 1000000) :
    Calls Tryz.prog 28 #[.agg (tc t (.slice A 24 c)).toArray] w fun e w' => e = .returned (.int .i64 (Vl.tot t.s : Int)) ∧ Below w.heap.size w w' := by
  obtain ⟨b, o, rfl, hat⟩ := ss_at h
  have HA := Lib.hid hat
  obtain ⟨T, hT⟩ : ∃ T, T = Vl.tot t.s := ⟨_, rfl⟩
  rw [← hT]
  obtain ⟨F, hF0, hF1, hF2, hF3⟩ : ∃ F : Nat → Nat, F 0 = 0 ∧ (∀ k, F (k + 1) = F k + need (t.s k).dt.length) ∧ F 24 = T ∧ ∀ k, k ≤ 24 → F k ≤ 250032 :=
    ⟨psum t.s, rfl, psum_succ t.s, (psum_all t.s).trans hT.symm, fun k hk => Nat.le_trans (psum_le t.s hn k hk) (by omega)⟩
  have HP := Lib.hid hF3
  have HSU := Lib.hid hF1
  have HALL := Lib.hid hF2
  have HF0 := Lib.hid hF0
  have HB := Lib.hid (alloc_below w (.cells (tc t (.slice (some ⟨b, o, none⟩) 24 c)).toArray 27))
  have HC : Hid (Bw (w.alloc (.cells (tc t (.slice (some ⟨b, o, none⟩) 24 c)).toArray 27)) w.heap.size (tc t (.slice (some ⟨b, o, none⟩) 24 c)) 27) := heap_alloc_new w _
  have c0 := HC.out.cell 0 _ rfl
  have HNN := Lib.hid hn
  clear h hn hat hT hF0 hF1 hF2 hF3
  go_enter Tryz.func28, Tryz.ntmps28
  go_upto_region 3 with fail
  clear c0 HC
  go_loopw [3, 9] (fun s i wr => ∃ k : Nat, k ≤ 24 ∧ i = .int .i64 k ∧ s = .int .i64 (F k : Int) ∧ Hid (Below w.heap.size w wr)) (fun _ i _ => 24 - (intOf i).toNat)
  case atStart => exact ⟨0, by omega, rfl, by rw [HF0.out]; rfl, HB.out⟩
  case round =>
    clear HB
    obtain ⟨k, hk, rfl, rfl, HB⟩ := hrel
    by_cases hlt : k < 24
    · obtain ⟨y, hy1, hy2⟩ := HA.out wr HB.out k hlt
      have HY := Lib.hid hy1
      have hlen : (t.s k).dt.length = y.n := hy2.1
      have hle := HNN.out k hlt
      have hps := HP.out k hk
      have HS := Lib.hid (HSU.out k)
      rw [hlen] at hle HS
      clear hy1 hy2 hlen
      obtain ⟨P, hP⟩ : ∃ P, P = F k := ⟨_, rfl⟩
      rw [← hP] at hps HS ⊢
      have HLE := Lib.hid hle
      have HPS := Lib.hid hps
      clear hP hle hps
      go_upto_region 5 with (first
        | (refine Did.list rfl (did_load 92 (.tmp 11) rfl ⟨b, o + k * 9, none⟩ rfl _ Tryz.underlying92 rfl (sc (t.s k) (.slice y.a y.n y.c)) size_Sl HY.out) ?_)
        | (refine wpList_alloc_any rfl 92 rfl _ zero_Sl ?_; intro w5 hb5 hs5 hw5)
        | (refine wpList_store_part rfl 92 (.tmp 5) (.tmp 12) rfl wr.heap.size 0 (sc (t.s k) (.slice y.a y.n y.c)) rfl rfl 92 _ hb5 size_Sl (by simp [sc]) (sc_row _ _ _ _) ?_
           intro w6 hb6 hs6 hk6))
      have HB6 : Hid (Below w.heap.size w w6) := HB.out.trans ((hw5.trans (hk6.below2 (fun k hk => by omega))).mono HB.out.size)
      have c8 : w6.cell? ⟨wr.heap.size, 8, none⟩ = some (.slice y.a y.n y.c) := Bw.cell (show Bw w6 wr.heap.size (sc (t.s k) (.slice y.a y.n y.c)) 92 from hb6) 8 _ rfl
      clear hb5 hs5 hw5 hb6 hs6 hk6 HY HB
      go_wp2_with fail
      refine (needO_any (y.n : Int) w6 (by omega) (by have := HLE.out; omega)).mono ?_
      rintro e w' ⟨rfl, rfl⟩
      rw [needO_nat]
      have hle := HLE.out
      have hps := HPS.out
      have hnd : need y.n ≤ 10418 := by unfold need; omega
      clear hle HLE
      generalize need y.n = z at *
      go_wp2_with fail
      go_roundw
      case rel => exact ⟨k + 1, by omega, by go_num, by rw [HS.out]; go_num, HB6.out⟩
      case measure => simp [intOf]; omega
    · obtain rfl : k = 24 := by omega
      rw [HALL.out]
      clear HP HSU HALL HNN HA
      go_wp2_with fail
      go_ret
      exact ⟨rfl, HB.out⟩
end Go.Proofs.YtpbpdnjlomhkdaaGreat
