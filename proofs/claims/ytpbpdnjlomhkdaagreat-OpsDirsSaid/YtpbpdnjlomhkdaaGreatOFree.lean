/-
  The lowest free slot; resized (layer 13).
-/
import Derived.Test.YtpbpdnjlomhkdaaGreatOUsed
import Derived.Deep.LoopGhost
import Derived.Shelf.Abstract
namespace Go.Proofs.YtpbpdnjlomhkdaaGreat
open Go.RowKit Go.Shelf

/-- The lowest free number, or -1. -/
def lowI (t : Op.TT) : Int := match Op.lowest t with | some k => (k : Int) | none => -1
theorem lowI_hit {t : Op.TT} {k : Nat} (hk : k < 24) (h0 : (t.s k).kind = 0) (h : ∀ j, j < k → (t.s j).kind ≠ 0) : lowI t = (k : Int) := by
  have : Op.lowest t = some k := by
    unfold Op.lowest
    rw [List.find?_range_eq_some]
    exact ⟨by simpa using h0, by simpa using hk, fun j hj => by simpa using h j hj⟩
  unfold lowI
  rw [this]
theorem lowI_miss {t : Op.TT} (h : ∀ j, j < 24 → (t.s j).kind ≠ 0) : lowI t = -1 := by
  have : Op.lowest t = none := by
    unfold Op.lowest
    rw [List.find?_range_eq_none]
    exact fun j hj => by simpa using h j hj
  unfold lowI
  rw [this]
theorem low_some {t : Op.TT} {k : Nat} (h : Op.lowest t = some k) : k < 24 ∧ (t.s k).kind = 0 := by
  unfold Op.lowest at h
  rw [List.find?_range_eq_some] at h
  exact ⟨by simpa using h.2.1, by simpa using h.1⟩
set_option maxRecDepth 100000 in
set_option maxHeartbeats 1000000 in
theorem isFree_any (s : Vl.Th) (v : Value) (w : World) : Calls Tryz.prog 148 #[.agg (sc s v).toArray] w fun e w' => e = .returned (.bool (decide (s.kind = 0))) ∧ Below w.heap.size w w' := by
  have c1 : (w.alloc (.cells (sc s v).toArray 92)).cell? ⟨w.heap.size, 1, none⟩ = some (.int .u32 (s.kind : Int)) := by rw [cell_of_row _ _ _ _ _ _ (heap_alloc_new w _)]; rfl
  have e : ((s.kind : Int) == 0) = decide (s.kind = 0) := by
    by_cases h : s.kind = 0
    · simp [h]
    · simp [h]
  have HE := Lib.hid e
  clear e
  go_enter Tryz.func148, Tryz.ntmps148
  go_wp2
  go_ret
  exact ⟨by rw [← HE.out]; rfl, alloc_below _ _⟩
set_option maxRecDepth 100000 in
set_option maxHeartbeats 2000000 in
theorem indexFree_any {A : Option Addr} {cp : Nat} {t : Op.TT} {w : World} (h : SS w A 24 ((List.range 24).map t.s)) :
    Calls Tryz.prog 147 #[.slice A 24 cp, .func (.func 148) #[] #[]] w fun en w' => en = .returned (.int .i64 (lowI t)) ∧ Below w.heap.size w w' := by
  obtain ⟨b, o, rfl, hat⟩ := ss_at h
  have HA := Lib.hid hat
  have eg : ∀ args W, (callFunc 148 args).run Tryz.prog W = .ok (.enter 148 args) W := enters_of Tryz.func148 (by kernel_rfl) rfl
  clear h hat
  obtain ⟨Z, hZ⟩ : ∃ Z, Z = lowI t := ⟨_, rfl⟩
  rw [← hZ]
  have HZ := Lib.hid hZ
  clear hZ
  go_enter Tryz.func147, Tryz.ntmps147
  go_wp2
  go_loopg [5, 8] 24 (fun gg _ s8 wr => ∃ k : Nat, k ≤ 24 ∧ 24 - k ≤ gg ∧ s8 = .int .i64 k ∧ Hid (Below w.heap.size w wr) ∧ Hid (∀ j, j < k → (t.s j).kind ≠ 0))
  case atStart => exact ⟨0, by omega, by omega, rfl, Below.refl _ w, fun j hj => absurd hj (Nat.not_lt_zero _)⟩
  case round =>
    obtain ⟨k, hk, hg, rfl, HB, HO⟩ := hrel
    by_cases hlt : k < 24
    · obtain ⟨y, hy, _⟩ := HA.out wr HB.out k hlt
      have HY := Lib.hid hy
      have HC := Lib.hid (isFree_any (t.s k) (.slice y.a y.n y.c) wr)
      clear hy
      by_cases hq : (t.s k).kind = 0
      · have HZ2 : Hid (Z = (k : Int)) := HZ.out.trans (lowI_hit hlt hq HO.out)
        rw [show decide ((t.s k).kind = 0) = true from by simpa using hq] at HC
        clear hq
        go_wp2_with (first
          | (refine Did.list rfl (did_load 92 (.tmp 14) rfl ⟨b, o + k * 9, none⟩ rfl _ Tryz.underlying92 rfl (sc (t.s k) (.slice y.a y.n y.c)) size_Sl HY.out) ?_)
          | (go_at_fn 148; refine HC.out.mono ?_; rintro en w' ⟨rfl, hb'⟩))
        go_ret
        exact ⟨by rw [HZ2.out]; rfl, HB.out.trans (hb'.mono HB.out.size)⟩
      · have HF := Lib.hid hq
        rw [show decide ((t.s k).kind = 0) = false from by simpa using hq] at HC
        clear hq
        go_wp2_with (first
          | (refine Did.list rfl (did_load 92 (.tmp 14) rfl ⟨b, o + k * 9, none⟩ rfl _ Tryz.underlying92 rfl (sc (t.s k) (.slice y.a y.n y.c)) size_Sl HY.out) ?_)
          | (go_at_fn 148; refine HC.out.mono ?_; rintro en w' ⟨rfl, hb'⟩))
        go_roundg (24 - (k + 1))
        case measure => omega
        case rel =>
          refine ⟨k + 1, by omega, by omega, by go_num, HB.out.trans (hb'.mono HB.out.size), (show Hid _ from fun j hjk => ?_)⟩
          by_cases e : j = k
          · subst e
            exact HF.out
          · exact HO.out j (by omega)
    · have : k = 24 := by omega
      subst this
      have HY : Hid (Z = -1) := HZ.out.trans (lowI_miss HO.out)
      go_wp2
      go_ret
      exact ⟨by rw [HY.out]; rfl, HB.out⟩
theorem infos_by : (Tryz.prog.info? 5).map (fun i => (i.zero, i.size, i.bytes)) = some (some (.int .u8 0), 1, 1) := by kernel_rfl
theorem made_noughts (n : Nat) : madeCells (Value.int .u8 0).cells (n * 1) = (bc (List.replicate n 0)).toArray := by
  apply Array.ext'
  simp [madeCells, bc, Value.cells, Nat.mod_one]
  rw [List.eq_replicate_iff]
  simp
theorem run_make_noughts (w : World) (n : Nat) (hn : n ≤ 1000000) : (Instr.makeSlice 38 (.int .i64 (n : Int)) (.int .i64 (n : Int))).run Tryz.prog w = .ok (.slice (some ⟨w.heap.size, 0, none⟩) n n) (w.alloc (.cells (bc (List.replicate n 0)).toArray 5)) := by
  obtain ⟨i, hi, hz, hs, hb⟩ := info_parts infos_by
  have hr := run_makeSlice (P := Tryz.prog) w 38 5 i (.int .u8 0) Tryz.underlying38 hi hz .i64 .i64 (n : Int) (n : Int) (by omega) (by omega) (by rw [hs]; simp; omega) (by rw [hb]; omega) (by omega)
  rw [hs, Int.toNat_natCast, made_noughts] at hr
  exact hr
/-- What resized hands back. -/
def SizQ (l : List UInt8) (n : Nat) (w : World) (e : Ending) (w' : World) : Prop := e = .returned (.slice (some ⟨w.heap.size, 0, none⟩) n n) ∧ Bw w' w.heap.size (bc (Op.sized l n)) 5 ∧ Below w.heap.size w w'
theorem size_by : (Tryz.prog.info? 5).map (·.size) = some 1 := by kernel_rfl
set_option maxRecDepth 100000 in
set_option maxHeartbeats 2000000 in
theorem resized_any (A : Option Addr) (m c n : Nat) (l : List UInt8) (w : World) (h : BS w A m l) (hm : m ≤ 1000000) (hn : n ≤ 1000000) :
    Calls Tryz.prog 111 #[.slice A m c, .int .i64 (n : Int)] w (SizQ l n w) := by
  have hmk := run_make_noughts w n hn
  have H0 : Hid (Bw (w.alloc (.cells (bc (List.replicate n 0)).toArray 5)) w.heap.size (bc (List.replicate n 0)) 5) := heap_alloc_new w _
  have HB := Lib.hid (alloc_below w (.cells (bc (List.replicate n 0)).toArray 5))
  have HX := Lib.hid (h.below (alloc_below w (.cells (bc (List.replicate n 0)).toArray 5)))
  have HL : Hid (l.length = m) := h.1
  have HS : Hid ((bc (List.replicate n 0)).take 0 ++ bc (l.take n) ++ (bc (List.replicate n 0)).drop (0 + (bc (l.take n)).length) = bc (Op.sized l n)) := by
    show _ = _
    unfold Op.sized
    rw [bc_append, List.take_zero, List.nil_append, bc_length, List.length_take]
    congr 1
    unfold bc
    rw [List.map_replicate, List.map_replicate, List.drop_replicate]
    congr 1
    omega
  clear h
  generalize w.alloc (.cells (bc (List.replicate n 0)).toArray 5) = w1 at *
  rcases A with _ | ad
  · have h0 : m = 0 := by
      rcases Nat.eq_zero_or_pos m with h0 | h0
      · exact h0
      · obtain ⟨b, o, h, _⟩ := HX.out.2 h0
        cases h
    subst h0
    obtain rfl : l = [] := List.eq_nil_of_length_eq_zero HL.out
    have HZ : Hid (List.replicate n 0 = Op.sized [] n) := by show _ = _; unfold Op.sized; simp
    have hcp := fun ty => run_copy_none (P := Tryz.prog) w1 38 38 ty 5 (some ⟨w.heap.size, 0, none⟩) none n n 0 c Tryz.underlying38 size_by (Nat.zero_min n)
    clear HS
    go_enter Tryz.func111, Tryz.ntmps111
    go_wp2_with fail
    go_ret
    exact ⟨rfl, by rw [← HZ.out]; exact H0.out, HB.out⟩
  · go_enter Tryz.func111, Tryz.ntmps111
    go_wp2_with (refine wpList_copy_any rfl (.tmp 8) (.tmp 9) 38 38 rfl 5 w.heap.size 0 n n ad m c rfl rfl (bc (List.replicate n 0)) 5 (bc (l.take n)) Tryz.underlying38 size_by H0.out (by rw [bc_length, List.length_take, HL.out]; exact Nat.min_comm _ _) (fun j v hv => HX.out.news rfl j v (by
      unfold bc at hv ⊢
      rw [List.map_take, List.getElem?_take] at hv
      split at hv
      · exact hv
      · cases hv)) (by rw [bc_length, bc_length, List.length_take, List.length_replicate]; omega) (bc_one _) ?_
                 intro w2 hb2 hs2 hk2)
    rw [HS.out] at hb2
    have HB2 : Hid (Below w.heap.size w w2) := HB.out.trans (hk2.below2 (fun k hk => by omega))
    have HR : Hid (Bw w2 w.heap.size (bc (Op.sized l n)) 5) := hb2
    clear hb2 hs2 hk2 HS H0 HX hmk
    go_ret
    exact ⟨rfl, HR.out, HB2.out⟩
end Go.Proofs.YtpbpdnjlomhkdaaGreat
