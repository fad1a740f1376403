/-
  The walk of the statement on a reply's states (layer 9).
-/
import Derived.Test.YtobhmjokoicpoaaDoorKAwake
namespace Go.Proofs.YtobhmjokoicpoaaDoor
open Go.RowKit Go.Shelf

/-- A byte of a row of the call's own is written. -/
theorem own_set {w : World} {base : Nat} {e : TypeId} {g n c : Nat} {l : List UInt8} (h : w.ownsRow base e 1 (.slice (some ⟨g, 0, none⟩) n c) n (bc l)) {j : Nat} (hj : j < n) :
    (∃ hl : j < l.length, w.cell? ⟨g, j, none⟩ = some (.int .u8 (l[j].toNat : Int))) ∧ w.frozen? ⟨g, j, none⟩ = false ∧ base ≤ g ∧ ∀ b : UInt8, (w.setCell ⟨g, j, none⟩ (.int .u8 (b.toNat : Int))).ownsRow base e 1 (.slice (some ⟨g, 0, none⟩) n c) n (bc (l.set j b)) := by
  have hl : l.length = n := by have := h.1; rw [bc_length] at this; omega
  have hc := h.cells (g := g) rfl j _ (bc_get l j (by omega))
  rw [add_plain, Nat.zero_add] at hc
  rcases h.2 with ⟨h1, _⟩ | ⟨g', cap, cur, h1, hb, hg, hnc, hcm, hcs, ht⟩
  · cases h1
  · injection h1 with h1 _ h5
    injection h1 with h1
    injection h1 with h1 _ _
    subst h1 h5
    refine ⟨⟨by omega, hc⟩, by simp [World.frozen?, hg], hb, fun b => ?_⟩
    refine ⟨by rw [bc_length, List.length_set, hl]; omega, .inr ⟨g, c, cur.setIfInBounds j (.int .u8 (b.toNat : Int)), rfl, hb, ?_, hnc, hcm, ?_, ?_⟩⟩
    · rw [setCell_eq_setRow _ _ _ _ _ _ _ hg, setRow_heap _ _ _ _ _ _ hg]
    · simpa using hcs
    · rw [Array.toList_setIfInBounds, List.take_set, ht]
      simp [bc, List.map_set]
theorem set_other (w : World) (g k : Nat) (v : Value) : Keep (· ≠ g) w (w.setCell ⟨g, k, none⟩ v) := (Keep.refl _ _).setCell (p := ⟨g, k, none⟩) (fun h => h rfl) _

def rS (z : Int) : Rp := ⟨0, 4, z, 0, 0, 0, 0, 0, 0, 0, [], [], false, 0, 0⟩
theorem built_rS (z : Int) : Tryd.prog.built 48 [(1, .int .u32 4), (2, .int .i64 z)] = some (rc (rS z) (.slice none 0 0) (.slice none 0 0)).toArray := by kernel_rfl
theorem rS_wide (z : Int) : (rS z).Wide := ⟨Nat.zero_lt_succ _, (by show 4 < 4294967296; decide), Nat.zero_lt_succ _, Nat.zero_lt_succ _, Nat.zero_lt_succ _, Nat.zero_lt_succ _, Nat.zero_lt_succ _, Nat.zero_lt_succ _, Nat.zero_lt_succ _, Nat.zero_lt_succ _, Nat.zero_lt_succ _, fun _ h => by cases h⟩
theorem okB_nil : okB [] = true := by decide +kernel
theorem rS_ok (z : Int) (h : stOk z = true) : (rS z).okB = true := (Rp.okB_iff _).2 ⟨(Rp.okA_iff _).2 ⟨h, Nat.zero_le _, Nat.zero_le _⟩, okB_nil⟩
theorem rS_bad : ∀ z ∈ [(0 : Int), 60, 61, 62, 63, 64, 65, 66, 67, 68, 69, 70, 71], Rp.err ((rS z).enc.set 11 59) = 11 := by decide +kernel
theorem stOk_mem (z : Int) (h : stOk z = true) : z ∈ [(0 : Int), 60, 61, 62, 63, 64, 65, 66, 67, 68, 69, 70, 71] := by
  have := (stOk_iff z).1 h
  simp only [List.mem_cons, List.not_mem_nil, or_false]
  omega

set_option maxRecDepth 100000 in
set_option maxHeartbeats 4000000 in
theorem states_walk (w : World) (hch : Ch w) (z : Int) : Calls Tryd.prog 8 #[.int .i64 z] w fun e w' => e = .returned (.bool true) ∧ Below w.heap.size w w' := by
  have HCH := Lib.hid hch
  clear hch
  go_enter Tryd.func8, Tryd.ntmps8
  go_wp2_with fail
  refine (awake_any w HCH.out).mono ?_
  rintro en w1 ⟨rfl, hb1⟩
  have HW1 := Lib.hid hb1
  clear hb1
  go_wp2_with (refine Did.list rfl (did_build 48 #[(1, .const (.int .u32 4)), (2, .tmp 15)] rfl _ (built_rS z)) ?_)
  refine (putReply_any none 0 0 none 0 0 (rS z) w1 BS.nil ES.nil (fun _ h => by cases h)).mono ?_
  rintro en w2 ⟨A2, n2, c2, rfl, ho2⟩
  have HW2 := Lib.hid (HW1.out.trans (ho2.2.mono HW1.out.size))
  by_cases hst : stOk z = true
  rotate_left
  · have he : (rS z).errP = 1 := if_neg (fun h => hst ((Rp.okA_iff _).1 h).1)
    have hp : (rS z).put = [] := if_neg (fun h => hst ((Rp.okA_iff _).1 ((Rp.okB_iff _).1 h).1).1)
    rw [he]
    rw [hp] at ho2
    have h0 : n2 = 0 := by have := ho2.bs.1; simpa using this.symm
    subst h0
    have hz := fun h => hst ((stOk_iff z).2 h)
    have z0 : (z == 0) = false := by
      have : ¬ z = 0 := fun h => hz (.inl h)
      simpa using this
    clear ho2 hst he hp
    by_cases z1 : 60 ≤ z
    · have z2 : decide (z ≤ 71) = false := decide_eq_false (fun h => hz (.inr ⟨z1, h⟩))
      clear hz
      go_wp2_with fail
      go_ret
      exact ⟨rfl, HW2.out⟩
    · have z2 : decide (60 ≤ z) = false := decide_eq_false z1
      clear hz z1
      go_wp2_with fail
      go_ret
      exact ⟨rfl, HW2.out⟩
  have hok := rS_ok z hst
  obtain ⟨hg1, hg2⟩ := (rS z).got_put (rS_wide z) hok
  have hbad := rS_bad z (stOk_mem z hst)
  have hlen := (rS z).enc_len hok
  have hz := (stOk_iff z).1 hst
  rw [(rS z).errP_ok hok]
  rw [show (rS z).put = (rS z).enc from if_pos hok] at ho2
  generalize (rS z).enc = L at *
  have hn2 : L.length = n2 := ho2.bs.1
  obtain ⟨g, cap, hv, hgl, hgs⟩ := ho2.1.form (by omega)
  injection hv with hA _ hC
  subst hA hC
  obtain ⟨⟨hl11, hc11⟩, hf11, _, hset⟩ := own_set ho2.1 (j := 11) (by omega)
  have HB2 := Lib.hid ho2.bs
  have HG : Hid (g < w2.heap.size) := by show _ < _; exact hgs
  have HS := Lib.hid ho2.1
  have HGW : Hid (w.heap.size ≤ g) := Nat.le_trans HW1.out.size hgl
  have HN : Hid (12 ≤ n2 ∧ n2 ≤ 10000000) := by show _ ∧ _; omega
  have h11 : (11 : Int) < (n2 : Int) := by omega
  have HG1 := Lib.hid hg1
  have HG2 := Lib.hid hg2
  have HBAD := Lib.hid hbad
  clear hst hok hlen hgl hgs ho2 hc11 hf11 hset hg1 hg2 hbad
  by_cases h0 : z = 0
  · have z0 : (z == 0) = true := by simpa using h0
    clear hz h0
    go_wp2_with fail
    refine (getReply_any (some ⟨g, 0, none⟩) n2 c2 L w2 HB2.out (by have := HN.out; omega)).mono ?_
    rintro en w3 ⟨A3, n3, c3, B3, m3, d3, rfl, _, _, hb3⟩
    rw [HG1.out, HG2.out]
    have HW3 := Lib.hid (HW2.out.trans (hb3.mono HW2.out.size))
    have HS3 := Lib.hid (HS.out.kept (below_grown hb3) (Classical.em _))
    have HG3 : Hid (g < w3.heap.size) := Nat.lt_of_lt_of_le HG.out hb3.size
    clear hb3 HW2 HS HG HB2
    go_upto_region 9 with (first
      | (refine wpList_alloc_any rfl 48 rfl _ zero_R ?_; intro w4 hb4 hs4 hw4)
      | (refine wpList_store_part rfl 48 (.tmp 7) (.tmp 42) rfl w3.heap.size 0 (rc (rS z) (.slice A3 n3 c3) (.slice B3 m3 d3)) rfl rfl 48 _ hb4 size_R (by simp [rc]) (rc_one _ _ _ _ _ _ _) ?_
         intro w5 hb5 hs5 hk5))
    have HR5 : Hid (Bw w5 w3.heap.size (rc (rS z) (.slice A3 n3 c3) (.slice B3 m3 d3)) 48) := hb5
    have hbw : Below w3.heap.size w3 w5 := hw4.trans (hk5.below2 (fun k hk => by omega))
    have HW5 := Lib.hid (HW3.out.trans (hbw.mono HW3.out.size))
    have HS5 := Lib.hid (HS3.out.kept (below_grown hbw) (Classical.em _))
    have HRG : Hid (w3.heap.size ≠ g) := by show _ ≠ _; have := HG3.out; omega
    clear hb4 hs4 hw4 hb5 hs5 hk5 hbw HW3 HS3 HG3
    generalize w3.heap.size = r at *
    have h11n : 11 < n2 := by omega
    obtain ⟨⟨_, hc11⟩, hf11, _, hset⟩ := own_set HS5.out (j := 11) h11n
    have hset1 := Lib.hid (hset 59)
    have HW6 : Hid (Below w.heap.size w (w5.setCell ⟨g, 11, none⟩ (.int .u8 59))) := HW5.out.setCell (p := ⟨g, 11, none⟩) HGW.out _
    have HR6 : Hid (Bw (w5.setCell ⟨g, 11, none⟩ (.int .u8 59)) r (rc (rS z) (.slice A3 n3 c3) (.slice B3 m3 d3)) 48) := HR5.out.keep (set_other w5 g 11 _) HRG.out
    have HB6 : Hid (BS (w5.setCell ⟨g, 11, none⟩ (.int .u8 59)) (some ⟨g, 0, none⟩) n2 (L.set 11 59)) := BS.of_own hset1.out
    clear hset hset1 HW5 HR5 HS5 h11n
    go_upto_region 10 with fail
    clear hc11 hf11
    generalize w5.setCell ⟨g, 11, none⟩ (.int .u8 59) = w6 at *
    go_wp2_with fail
    refine (getReply_any (some ⟨g, 0, none⟩) n2 c2 (L.set 11 59) w6 HB6.out (by have := HN.out; omega)).mono ?_
    rintro en w7 ⟨A7, n7, c7, B7, m7, d7, rfl, _, _, hb7⟩
    rw [HBAD.out]
    have HW7 := Lib.hid (HW6.out.trans (hb7.mono HW6.out.size))
    have HR7 := Lib.hid (HR6.out.below hb7)
    clear hb7 HW6 HB6 HR6
    go_upto_region 11 with (first
      | (refine wpList_alloc_any rfl 48 rfl _ zero_R ?_; intro w8 hb8 hs8 hw8)
      | (refine wpList_store_part rfl 48 (.tmp 9) (.tmp 49) rfl w7.heap.size 0 _ rfl rfl 48 _ hb8 size_R (by simp [rc]) (rc_one _ _ _ _ _ _ _) ?_
         intro w9 hb9 hs9 hk9))
    have hbw : Below w7.heap.size w7 w9 := hw8.trans (hk9.below2 (fun k hk => by omega))
    have HW9 := Lib.hid (HW7.out.trans (hbw.mono HW7.out.size))
    have HR9 := Lib.hid (HR7.out.below hbw)
    clear hb8 hs8 hw8 hb9 hs9 hk9 hbw HW7 HR7
    have k1 : w9.cell? ⟨r, 1, none⟩ = some (.int .u32 4) := HR9.out.cell 1 _ rfl
    have k2 : w9.cell? ⟨r, 2, none⟩ = some (.int .i64 z) := HR9.out.cell 2 _ rfl
    go_wp2_with fail
    go_ret
    exact ⟨rfl, HW9.out⟩
  · have z1 : 60 ≤ z := by omega
    have z2 : z ≤ 71 := by omega
    have z0 : (z == 0) = false := by simpa using h0
    clear hz h0
    go_wp2_with fail
    refine (getReply_any (some ⟨g, 0, none⟩) n2 c2 L w2 HB2.out (by have := HN.out; omega)).mono ?_
    rintro en w3 ⟨A3, n3, c3, B3, m3, d3, rfl, _, _, hb3⟩
    rw [HG1.out, HG2.out]
    have HW3 := Lib.hid (HW2.out.trans (hb3.mono HW2.out.size))
    have HS3 := Lib.hid (HS.out.kept (below_grown hb3) (Classical.em _))
    have HG3 : Hid (g < w3.heap.size) := Nat.lt_of_lt_of_le HG.out hb3.size
    clear hb3 HW2 HS HG HB2
    go_upto_region 9 with (first
      | (refine wpList_alloc_any rfl 48 rfl _ zero_R ?_; intro w4 hb4 hs4 hw4)
      | (refine wpList_store_part rfl 48 (.tmp 7) (.tmp 42) rfl w3.heap.size 0 (rc (rS z) (.slice A3 n3 c3) (.slice B3 m3 d3)) rfl rfl 48 _ hb4 size_R (by simp [rc]) (rc_one _ _ _ _ _ _ _) ?_
         intro w5 hb5 hs5 hk5))
    have HR5 : Hid (Bw w5 w3.heap.size (rc (rS z) (.slice A3 n3 c3) (.slice B3 m3 d3)) 48) := hb5
    have hbw : Below w3.heap.size w3 w5 := hw4.trans (hk5.below2 (fun k hk => by omega))
    have HW5 := Lib.hid (HW3.out.trans (hbw.mono HW3.out.size))
    have HS5 := Lib.hid (HS3.out.kept (below_grown hbw) (Classical.em _))
    have HRG : Hid (w3.heap.size ≠ g) := by show _ ≠ _; have := HG3.out; omega
    clear hb4 hs4 hw4 hb5 hs5 hk5 hbw HW3 HS3 HG3
    generalize w3.heap.size = r at *
    have h11n : 11 < n2 := by omega
    obtain ⟨⟨_, hc11⟩, hf11, _, hset⟩ := own_set HS5.out (j := 11) h11n
    have hset1 := Lib.hid (hset 59)
    have HW6 : Hid (Below w.heap.size w (w5.setCell ⟨g, 11, none⟩ (.int .u8 59))) := HW5.out.setCell (p := ⟨g, 11, none⟩) HGW.out _
    have HR6 : Hid (Bw (w5.setCell ⟨g, 11, none⟩ (.int .u8 59)) r (rc (rS z) (.slice A3 n3 c3) (.slice B3 m3 d3)) 48) := HR5.out.keep (set_other w5 g 11 _) HRG.out
    have HB6 : Hid (BS (w5.setCell ⟨g, 11, none⟩ (.int .u8 59)) (some ⟨g, 0, none⟩) n2 (L.set 11 59)) := BS.of_own hset1.out
    clear hset hset1 HW5 HR5 HS5 h11n
    go_upto_region 10 with fail
    clear hc11 hf11
    generalize w5.setCell ⟨g, 11, none⟩ (.int .u8 59) = w6 at *
    go_wp2_with fail
    refine (getReply_any (some ⟨g, 0, none⟩) n2 c2 (L.set 11 59) w6 HB6.out (by have := HN.out; omega)).mono ?_
    rintro en w7 ⟨A7, n7, c7, B7, m7, d7, rfl, _, _, hb7⟩
    rw [HBAD.out]
    have HW7 := Lib.hid (HW6.out.trans (hb7.mono HW6.out.size))
    have HR7 := Lib.hid (HR6.out.below hb7)
    clear hb7 HW6 HB6 HR6
    go_upto_region 11 with (first
      | (refine wpList_alloc_any rfl 48 rfl _ zero_R ?_; intro w8 hb8 hs8 hw8)
      | (refine wpList_store_part rfl 48 (.tmp 9) (.tmp 49) rfl w7.heap.size 0 _ rfl rfl 48 _ hb8 size_R (by simp [rc]) (rc_one _ _ _ _ _ _ _) ?_
         intro w9 hb9 hs9 hk9))
    have hbw : Below w7.heap.size w7 w9 := hw8.trans (hk9.below2 (fun k hk => by omega))
    have HW9 := Lib.hid (HW7.out.trans (hbw.mono HW7.out.size))
    have HR9 := Lib.hid (HR7.out.below hbw)
    clear hb8 hs8 hw8 hb9 hs9 hk9 hbw HW7 HR7
    have k1 : w9.cell? ⟨r, 1, none⟩ = some (.int .u32 4) := HR9.out.cell 1 _ rfl
    have k2 : w9.cell? ⟨r, 2, none⟩ = some (.int .i64 z) := HR9.out.cell 2 _ rfl
    go_wp2_with fail
    go_ret
    exact ⟨rfl, HW9.out⟩
end Go.Proofs.YtobhmjokoicpoaaDoor
