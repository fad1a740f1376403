/-
  The document's answers for layer 3: what a state by values is in memory, and the contracts of up, counts, Stop, Read and put.
-/
import Derived.Test.YthokobooekmegaaDReads
namespace Go.Proofs.Ythokobooekmegaa
open Go.RowKit

/-- A slice of n texts. -/
def TS (w : World) (A : Option Addr) (n : Nat) (f : Nat → List UInt8) : Prop := 0 < n → ∃ b, A = some ⟨b, 0, none⟩ ∧ ∀ j, j < n → w.cell? ⟨b, j, none⟩ = some (.string (txt (f j)))
/-- A slice of writes. -/
def WS (w : World) (A : Option Addr) (c : Nat) (l : List (Int × List UInt8)) : Prop :=
  (l = [] → A = none ∧ c = 0) ∧ (0 < l.length → ∃ b, A = some ⟨b, 0, none⟩ ∧ ∀ j (hj : j < l.length), w.cell? ⟨b, j * 2, none⟩ = some (.int .i64 l[j].1) ∧ w.cell? ⟨b, j * 2 + 1, none⟩ = some (.string (txt l[j].2)))
def nrm (x : Int) : Int := if x < 0 then -1 else x
/-- A state by values. -/
def RefD (w : World) (AL AW : Option Addr) (cW : Nat) (s : DS) : Prop := TS w AL s.n (fun j => s.F (j : Int)) ∧ WS w AW cW s.pend
def dv (AL : Option Addr) (cL : Nat) (AW : Option Addr) (cW : Nat) (s : DS) : Value := .agg #[.slice AL s.n cL, .slice AW s.pend.length cW, .int .i64 (nrm s.left), .bool s.down]

section
variable {w w' : World} {A : Option Addr} {n c : Nat} {f : Nat → List UInt8} {l : List (Int × List UInt8)} {K : Nat → Prop}
theorem TS.keep (h : TS w A n f) (hk : Keep K w w') (hA : ∀ ad, A = some ad → K ad.block) : TS w' A n f := fun hn => by
  obtain ⟨b, e, hc⟩ := h hn
  exact ⟨b, e, fun j hj => (World.cell?_of_block (a := ⟨b, j, none⟩) (hk.block b (hA _ e))).trans (hc j hj)⟩
theorem TS.below (h : TS w A n f) (hb : Below w.heap.size w w') : TS w' A n f := fun hn => by
  obtain ⟨b, e, hc⟩ := h hn
  exact ⟨b, e, fun j hj => (hb.cell (p := ⟨b, j, none⟩) (World.block_lt_of_cell? w _ (hc j hj))).trans (hc j hj)⟩
theorem TS.fr {S : Nat → Prop} (h : TS w A n f) (hf : Fr S w w') (hA : ∀ ad, A = some ad → ¬ S ad.block) : TS w' A n f := fun hn => by
  obtain ⟨b, e, hc⟩ := h hn
  exact ⟨b, e, fun j hj => (World.cell?_of_block (a := ⟨b, j, none⟩) (hf.block b ⟨World.block_lt_of_cell? w _ (hc j hj), hA _ e⟩)).trans (hc j hj)⟩
theorem WS.below (h : WS w A c l) (hb : Below w.heap.size w w') : WS w' A c l := ⟨h.1, fun hn => by
  obtain ⟨b, e, hc⟩ := h.2 hn
  exact ⟨b, e, fun j hj => ⟨(hb.cell (p := ⟨b, j * 2, none⟩) (World.block_lt_of_cell? w _ (hc j hj).1)).trans (hc j hj).1, (hb.cell (p := ⟨b, j * 2 + 1, none⟩) (World.block_lt_of_cell? w _ (hc j hj).2)).trans (hc j hj).2⟩⟩⟩
theorem WS.fr {S : Nat → Prop} (h : WS w A c l) (hf : Fr S w w') (hA : ∀ ad, A = some ad → ¬ S ad.block) : WS w' A c l := ⟨h.1, fun hn => by
  obtain ⟨b, e, hc⟩ := h.2 hn
  exact ⟨b, e, fun j hj => ⟨(World.cell?_of_block (a := ⟨b, j * 2, none⟩) (hf.block b ⟨World.block_lt_of_cell? w _ (hc j hj).1, hA _ e⟩)).trans (hc j hj).1, (World.cell?_of_block (a := ⟨b, j * 2 + 1, none⟩) (hf.block b ⟨World.block_lt_of_cell? w _ (hc j hj).2, hA _ e⟩)).trans (hc j hj).2⟩⟩⟩
end
theorem RefD.below {w w' : World} {AL AW : Option Addr} {cW : Nat} {s : DS} (h : RefD w AL AW cW s) (hb : Below w.heap.size w w') : RefD w' AL AW cW s := ⟨h.1.below hb, h.2.below hb⟩
theorem RefD.fr {w w' : World} {AL AW : Option Addr} {cW : Nat} {s : DS} {S : Nat → Prop} (h : RefD w AL AW cW s) (hf : Fr S w w') (h1 : ∀ ad, AL = some ad → ¬ S ad.block) (h2 : ∀ ad, AW = some ad → ¬ S ad.block) : RefD w' AL AW cW s := ⟨h.1.fr hf h1, h.2.fr hf h2⟩

set_option maxHeartbeats 400000 in
theorem up_any (AL AW : Option Addr) (cL cW : Nat) (s : DS) (i : Int) (w : World) : Calls Try.prog 29 #[dv AL cL AW cW s, .int .i64 i] w fun e w' => e = .returned (.int .i64 (refus s i)) ∧ Below w.heap.size w w' := by
  unfold dv
  have HB : Hid (Below w.heap.size w (w.alloc (.cells #[.slice AL s.n cL, .slice AW s.pend.length cW, .int .i64 (nrm s.left), .bool s.down] 31))) := (Below.refl _ _).alloc (Nat.le_refl _) _
  cases hd : s.down
  · rw [hd] at HB
    by_cases hi : i < 0
    · have HH : Hid (refus s i = 15) := by show _ = _; simp [refus, hd, hi]
      clear hd
      go_enter Try.func29, Try.ntmps29
      go_wp2
      go_ret
      exact ⟨by rw [HH.out]; rfl, HB.out⟩
    · by_cases hn : (s.n : Int) ≤ i
      · have HH : Hid (refus s i = 15) := by show _ = _; simp [refus, hd, hn]
        clear hd
        go_enter Try.func29, Try.ntmps29
        go_wp2
        go_ret
        exact ⟨by rw [HH.out]; rfl, HB.out⟩
      · have HH : Hid (refus s i = 0) := by show _ = _; simp [refus, hd, hn, hi]
        clear hd
        go_enter Try.func29, Try.ntmps29
        go_wp2
        go_ret
        exact ⟨by rw [HH.out]; rfl, HB.out⟩
  · rw [hd] at HB
    have HH : Hid (refus s i = 20) := by show _ = _; simp [refus, hd]
    clear hd
    go_enter Try.func29, Try.ntmps29
    go_wp2
    go_ret
    exact ⟨by rw [HH.out]; rfl, HB.out⟩

set_option maxHeartbeats 400000 in
theorem stopR_any (AL AW : Option Addr) (cL cW : Nat) (s : DS) (k : Int) (w : World) : Calls Try.prog 19 #[dv AL cL AW cW s, .int .i64 k] w fun e w' => e = .returned (dv AL cL AW cW { s with left := k }) ∧ Below w.heap.size w w' := by
  unfold dv
  by_cases hk : k < 0
  · have HN : Hid (nrm k = -1) := by show _ = _; simp [nrm, hk]
    go_enter Try.func19, Try.ntmps19
    go_wp2
    refine bodyPost_ret (v := .agg #[.slice AL s.n cL, .slice AW s.pend.length cW, .int .i64 (-1), .bool s.down]) (by simp [results, Try.results19, go_sem]) rfl ⟨by rw [HN.out], ?_⟩
    exact ((Below.refl _ _).alloc (Nat.le_refl _) _).alloc (by simp) _
  · have HN : Hid (nrm k = k) := by show _ = _; simp [nrm, hk]
    go_enter Try.func19, Try.ntmps19
    go_wp2
    refine bodyPost_ret (v := .agg #[.slice AL s.n cL, .slice AW s.pend.length cW, .int .i64 k, .bool s.down]) (by simp [results, Try.results19, go_sem]) rfl ⟨by rw [HN.out], ?_⟩
    exact ((Below.refl _ _).alloc (Nat.le_refl _) _).alloc (by simp) _

/-- The error of a counted call. -/
def cerr (s : DS) : Int := if s.count.down then 20 else 0
theorem nrm_zero (x : Int) : nrm x = 0 ↔ x = 0 := by unfold nrm; split <;> omega
set_option maxHeartbeats 400000 in
theorem counts_any (AL AW : Option Addr) (cL cW : Nat) (s : DS) (w : World) (hd : s.down = false) (h1 : s.left ≤ 9223372036854775807) :
    Calls Try.prog 30 #[dv AL cL AW cW s] w fun e w' => e = .returned (.tuple #[dv AL cL AW cW s.count, .int .i64 (cerr s)]) ∧ Below w.heap.size w w' := by
  unfold dv
  rw [hd]
  have HDN := Lib.hid hd
  clear hd
  by_cases hz : s.left = 0
  · have HC : Hid (s.count = { s with down := true }) := by show _ = _; simp [DS.count, hz]
    have HN : Hid (nrm s.left = 0) := by show _ = _; rw [hz]; rfl
    rw [HN.out]
    clear hz
    go_enter Try.func30, Try.ntmps30
    go_wp2
    refine bodyPost_ret (v := .tuple #[.agg #[.slice AL s.n cL, .slice AW s.pend.length cW, .int .i64 0, .bool true], .int .i64 20]) (by simp [results, Try.results30, go_sem]) rfl ⟨by unfold cerr; rw [HC.out]; simp [HN.out], ?_⟩
    exact ((Below.refl _ _).alloc (Nat.le_refl _) _).alloc (by simp) _
  · by_cases hp : 0 < s.left
    · have HC : Hid (s.count = { s with left := s.left - 1 }) := by show _ = _; simp [DS.count, hz, hp]
      have HN : Hid (nrm s.left = s.left) := by show _ = _; unfold nrm; rw [if_neg (by omega)]
      have HN2 : Hid (nrm (s.left - 1) = s.left - 1) := by show _ = _; unfold nrm; rw [if_neg (by omega)]
      rw [HN.out]
      go_enter Try.func30, Try.ntmps30
      go_wp2
      refine bodyPost_ret (v := .tuple #[.agg #[.slice AL s.n cL, .slice AW s.pend.length cW, .int .i64 (s.left - 1), .bool false], .int .i64 0]) (by simp [results, Try.results30, go_sem]) rfl ⟨by unfold cerr; rw [HC.out]; simp [HN2.out, HDN.out], ?_⟩
      exact ((Below.refl _ _).alloc (Nat.le_refl _) _).alloc (by simp) _
    · have HC : Hid (s.count = s) := by show _ = _; simp [DS.count, hz, hp]
      have HN : Hid (nrm s.left = -1) := by show _ = _; unfold nrm; rw [if_pos (by omega)]
      rw [HN.out]
      go_enter Try.func30, Try.ntmps30
      go_wp2
      refine bodyPost_ret (v := .tuple #[.agg #[.slice AL s.n cL, .slice AW s.pend.length cW, .int .i64 (-1), .bool false], .int .i64 0]) (by simp [results, Try.results30, go_sem]) rfl ⟨by unfold cerr; rw [HC.out]; simp [HN.out, HDN.out], ?_⟩
      exact ((Below.refl _ _).alloc (Nat.le_refl _) _).alloc (by simp) _

set_option maxRecDepth 100000 in
set_option maxHeartbeats 1000000 in
theorem readR_any (AL AW : Option Addr) (cL cW : Nat) (s : DS) (i : Int) (w : World) (h : RefD w AL AW cW s) (hs : s.pend.length ≤ 1000000) (hr : refus s i = 0) (h0 : 0 ≤ i) (hin : i < (s.n : Int)) :
    Calls Try.prog 34 #[dv AL cL AW cW s, .int .i64 i] w fun e w' => e = .returned (.tuple #[.string (txt (s.read i)), .int .i64 0]) ∧ Below w.heap.size w w' := by
  have HU := Lib.hid (fun W => up_any AL AW cL cW s i W)
  unfold dv at *
  have HR := Lib.hid hr
  have HD := Lib.hid h
  clear h hr
  go_enter Try.func34, Try.ntmps34
  go_wp2_with fail
  refine (HU.out _).mono ?_
  rintro e w1 ⟨rfl, hw1⟩
  rw [HR.out]
  have HB : Hid (Below w.heap.size w w1) := ((Below.refl w.heap.size w).alloc (Nat.le_refl _) _).trans (hw1.mono (by simp))
  have hbx : w1.heap[w.heap.size]? = some (.cells #[.slice AL s.n cL, .slice AW s.pend.length cW, .int .i64 (nrm s.left), .bool s.down] 31 (0, 0)) := (hw1.block _ (by simp)).trans (heap_alloc_new w _)
  have c0 : w1.cell? ⟨w.heap.size, 0, none⟩ = some (.slice AL s.n cL) := by rw [cell_of_row _ _ _ _ _ _ hbx]; rfl
  have c1 : w1.cell? ⟨w.heap.size, 1, none⟩ = some (.slice AW s.pend.length cW) := by rw [cell_of_row _ _ _ _ _ _ hbx]; rfl
  have HD1 := Lib.hid (HD.out.below HB.out)
  clear hw1 hbx
  go_wp2_with fail
  go_loop [7] (fun k => ∃ m : Nat, m ≤ s.pend.length ∧ k = .int .i64 ((m : Int) - 1) ∧ Hid (s.read i = rd (s.pend.take m) i (s.F i))) (fun k => (intOf k + 1).toNat)
  case atStart => exact ⟨s.pend.length, Nat.le_refl _, rfl, by show _ = _; rw [List.take_length]; rfl⟩
  case round =>
    obtain ⟨m, hm, rfl, HI⟩ := hrel
    by_cases hlt : 0 < m
    · obtain ⟨k, rfl⟩ : ∃ k, m = k + 1 := ⟨m - 1, by omega⟩
      have hk : k < s.pend.length := by omega
      obtain ⟨b, rfl, hc⟩ := HD1.out.2.2 (by omega)
      obtain ⟨hc1, hc2⟩ := hc k hk
      have HST := Lib.hid (rd_step hk i (s.F i))
      have hik : ((k + 1 : Nat) : Int) - 1 = (k : Int) := by omega
      clear hc
      rw [hik]
      clear hik
      by_cases hat : s.pend[k].1 = i
      · have HE : Hid (s.read i = s.pend[k].2) := by show _ = _; rw [HI.out, HST.out, if_pos hat]
        go_wp2
        go_ret2
        exact ⟨by rw [HE.out]; rfl, HB.out⟩
      · go_wp2
        go_round
        case rel => exact ⟨k, by omega, rfl, by show _ = _; rw [HI.out, HST.out, if_neg hat]⟩
        case measure => simp [intOf]
    · obtain rfl : m = 0 := by omega
      obtain ⟨j, rfl⟩ := Int.eq_ofNat_of_zero_le h0
      obtain ⟨b, rfl, hc⟩ := HD1.out.1 (by omega)
      have hcj := hc j (by omega)
      have HE : Hid (s.read (j : Int) = s.F (j : Int)) := by show _ = _; rw [HI.out]; rfl
      clear hlt HI hc
      go_wp2
      go_ret2
      exact ⟨by rw [HE.out]; rfl, HB.out⟩
set_option maxHeartbeats 400000 in
theorem readR_no (AL AW : Option Addr) (cL cW : Nat) (s : DS) (i : Int) (w : World) (hr : refus s i ≠ 0) :
    Calls Try.prog 34 #[dv AL cL AW cW s, .int .i64 i] w fun e w' => e = .returned (.tuple #[.string (txt []), .int .i64 (refus s i)]) ∧ Below w.heap.size w w' := by
  have HU := Lib.hid (fun W => up_any AL AW cL cW s i W)
  unfold dv at *
  go_enter Try.func34, Try.ntmps34
  go_wp2_with fail
  refine (HU.out _).mono ?_
  rintro e w1 ⟨rfl, hw1⟩
  have HB : Hid (Below w.heap.size w w1) := ((Below.refl w.heap.size w).alloc (Nat.le_refl _) _).trans (hw1.mono (by simp))
  clear hw1
  go_wp2
  go_ret2
  exact ⟨rfl, HB.out⟩
end Go.Proofs.Ythokobooekmegaa
