/-
  Contract of vol's Load (layer 12).
  Slots in a row of the call's own, slices of slots (layer 12).
  Contract of vol's All (layer 12).
  Contracts of vol's Change, SetChange, and of Error (layer 12).
  Contract of owners (layer 12): how often each block of data is named.
  Contracts of wrongBlock and Wrong (layer 12).
  Contract of canBeSaved (layer 12).
  Contract of release (layer 12): the blocks of an inode become empty, and are taken no more.
-/
import Derived.Test.YtnhokkdieijkhaaGreatDoorQ7
import Derived.Maps.AppendAt
namespace Go.Proofs.YtnhokkdieijkhaaGreatDoor
open Go.RowKit

theorem getI_any (A : Option Addr) (n cp : Nat) (l : List UInt8) (w : World) (h : BS w A n l) (hn : n ≤ 1000000) : Calls Tryz.prog 55 #[.slice A n cp] w (GetP l w) := by
  rcases Nat.eq_zero_or_pos n with h0 | h0
  · subst h0
    obtain rfl : l = [] := List.eq_nil_of_length_eq_zero h.1
    exact getI_nil A cp w
  · exact get_some A n cp l w h hn h0
theorem nic_row (x : Nd) (A : Option Addr) (n c : Nat) : ∀ v ∈ nic x (.slice A n c), v.oneCell' = true := by
  intro v hv
  simp only [nic, List.mem_cons, List.not_mem_nil, or_false] at hv
  rcases hv with rfl | rfl | rfl | rfl | rfl | rfl | rfl | rfl | rfl <;> rfl
theorem size_N : (Tryz.prog.info? 85).map (·.size) = some 9 := by kernel_rfl
theorem sc_no8 {w : World} {g : Nat} {s : Vl.Th} {A : Option Addr} {n c : Nat} {t : TypeId} (h : Bw w g (sc s (.slice A n c)) t) : ∀ o z, w.cell? ⟨g, o, none⟩ ≠ some (.int .u8 z) := by
  intro o z e
  rw [cell_of_row _ _ _ _ _ _ h] at e
  match o with
  | 0 | 1 | 2 | 3 | 4 | 5 | 6 | 7 | 8 => simp [sc] at e
  | k + 9 => simp [sc] at e
/-- What Load hands back. -/
def LoadQ (n : Nat) (B : Nat → List UInt8) (i : Nat) (w : World) (e : Ending) (w' : World) : Prop :=
  ∃ A k c, e = .returned (.tuple #[.agg (sc (Vl.ld Sl.dirB n B i) (.slice A k c)).toArray, .int .i64 (Vl.ldE Sl.dirB n B i)]) ∧ BS w' A k (Vl.ld Sl.dirB n B i).dt ∧ k ≤ 1000 ∧ Below w.heap.size w w' ∧ (∀ ad, A = some ad → w.heap.size ≤ ad.block) ∧ k ≤ c
theorem LoadQ.no {n : Nat} {B : Nat → List UInt8} {i : Nat} {w w' : World} {z : Int} (hz : Vl.ldE Sl.dirB n B i = z) (h0 : z ≠ 0) (hb : Below w.heap.size w w') : LoadQ n B i w (.returned (.tuple #[.agg (sc Sl.zero (.slice none 0 0)).toArray, .int .i64 z])) w' := by
  have : Vl.ld Sl.dirB n B i = Sl.zero := by unfold Vl.ld; rw [if_neg (by rw [hz]; exact h0)]; rfl
  unfold LoadQ
  rw [this, hz]
  exact ⟨none, 0, 0, rfl, BS.nil, by omega, hb, fun ad e => (by cases e), Nat.le_refl _⟩

section
variable {w : World} {p m : Nat} {x : Sl} {S : Nat → Prop} {X : TX}
set_option maxRecDepth 100000 in
set_option maxHeartbeats 1000000 in
theorem slotOf_any (i : Nat) (nd : Nd) (v : Value) (A : Option Addr) (n c : Nat) (w : World) : Calls Tryz.prog 57 #[.int .u32 (i : Int), .agg (nic nd v).toArray, .slice A n c] w
    fun e w' => e = .returned (.agg (sc (Vl.thOf i nd []) (.slice A n c)).toArray) ∧ Below w.heap.size w w' := by
  unfold nic
  go_enter Tryz.func57, Tryz.ntmps57
  go_upto_region 1 with (refine wpList_alloc_any rfl 32 rfl _ zero_Sl ?_; intro w1 hb1 hs1 hw1)
  simp only [World.size_alloc] at hb1 hs1 hw1
  have HR : Hid (Bw w1 (w.heap.size + 1) (sc Sl.zero (.slice none 0 0)) 32) := hb1
  have HN : Bw w1 w.heap.size (nic nd v) 85 := (hw1.block _ (by omega)).trans (heap_alloc_new w _)
  have HW : Hid (Below w.heap.size w w1) := ((Below.refl _ _).alloc (Nat.le_refl _) _).trans (hw1.mono (by omega))
  have k0 := HN.cell 0 _ rfl
  have k1 := HN.cell 1 _ rfl
  have k2 := HN.cell 2 _ rfl
  have k3 := HN.cell 3 _ rfl
  have k5 := HN.cell 5 _ rfl
  have k6 := HN.cell 6 _ rfl
  have k7 := HN.cell 7 _ rfl
  clear hb1 hs1 hw1 HN
  go_wp2_with (refine wpList_store_part rfl 32 (.tmp 6) (.tmp 23) rfl (w.heap.size + 1) 0 (sc (Vl.thOf i nd []) (.slice A n c)) rfl rfl 32 _ HR.out size_Sl (by simp [sc]) (sc_row _ _ _ _) ?_
               intro y hb _ hk
               have HB := Lib.hid hb
               have HK := Lib.hid hk
               clear hb hk)
  exact bodyPost_ret (results_one rfl _ y (w.heap.size + 1) HB.out size_Sl (by rfl) Tryz.underlying32) rfl ⟨rfl, HW.out.trans (HK.out.below2 (fun k hk => by omega))⟩
theorem Vl.thOf_fits {l : List UInt8} {i : Nat} (hi : i < 24) (he : Nd.err l = 0) (d : List UInt8) : Fits (Vl.thOf i (Nd.got l) d) := by
  have hw := Nd.wide_got l
  have hk : (Nd.got l).kind ≤ 3 := by
    have := (Nd.got_back l he).1
    simp only [Nd.okB, Nd.fits, Bool.and_eq_true, decide_eq_true_eq] at this
    exact this.1.1.1.1
  exact ⟨by show i < _; omega, by show (Nd.got l).kind < _; omega, ⟨hw.g, hw.l, hw.m, hw.c, hw.o, hw.v⟩⟩
set_option maxRecDepth 100000 in
set_option maxHeartbeats 4000000 in
theorem load_any (h : Tq w p m x S X) (hN : 36 ≤ x.n) (hN2 : x.n ≤ 803) (hs : ∀ i, (X.get i).length ≤ 96) (i : Nat) (hi : i < 24) :
    Calls Tryz.prog 20 #[.pointer (some ⟨p, 0, none⟩), .int .i64 (i : Int)] w (LoadQ x.n X.get i w) := by
  have HT := Lib.hid h
  have HSM := Lib.hid hs
  have HLi := Lib.hid (hs (11 + i))
  clear h hs
  go_enter Tryz.func20, Tryz.ntmps20
  go_upto_region 1 with (refine wpList_alloc_any rfl 32 rfl _ zero_Sl ?_; intro w1 hb1 hs1 hw1)
  have HR1 : Hid (Bw w1 w.heap.size (sc Sl.zero (.slice none 0 0)) 32) := hb1
  have HW1 := Lib.hid hw1
  clear hb1 hs1 hw1
  go_wp2_with fail
  refine (isVol_any (HT.out.below HW1.out) hN hN2).mono ?_
  rintro e w' ⟨rfl, rfl⟩
  have hd1 : decide ((i : Int) < 0) = false := by simp
  have hd2 : decide ((24 : Int) ≤ (i : Int)) = false := by simp; omega
  go_wp2_with fail
  rw [show (11 : Int) + (i : Int) = ((11 + i : Nat) : Int) by omega]
  refine (get_ok (HT.out.below HW1.out) (11 + i) (by omega)).mono ?_
  rintro e w2 ⟨A, n, c, rfl, hb, -, -, -, hw2, -⟩
  have HB2 := Lib.hid hb
  have HR2 := Lib.hid (HR1.out.below hw2)
  have HW2 := Lib.hid (HW1.out.trans (hw2.mono HW1.out.size))
  clear hb hw2 HR1 HW1
  go_wp2_with fail
  refine (getI_any A n c _ w2 HB2.out (by rw [← HB2.out.1]; exact Nat.le_trans HLi.out (by omega))).mono ?_
  rintro e w3 ⟨B, c3, rfl, hns, hw3⟩
  have HN3 := Lib.hid hns
  have HR3 := Lib.hid (HR2.out.below hw3)
  have HW3 := Lib.hid (HW2.out.trans (hw3.mono HW2.out.size))
  have HLT : Hid (w.heap.size < w3.heap.size) := by have := HR3.out.lt; exact this
  clear hns hw3 HR2 HW2 HB2
  have HE0 : Hid (Vl.ldE Sl.dirB x.n X.get i = if Nd.err (X.get (11 + i)) ≠ 0 then Nd.err (X.get (11 + i)) else if Vl.bsOk x.n X.get (Nd.got (X.get (11 + i))).size (Nd.got (X.get (11 + i))).bl 0 = true ∧ Sl.okS (Vl.thOf i (Nd.got (X.get (11 + i))) (Vl.dtOf X.get (Nd.got (X.get (11 + i))))) = true then 0 else 11) := rfl
  have HD0 : Hid (Vl.ld Sl.dirB x.n X.get i = if Vl.ldE Sl.dirB x.n X.get i = 0 then Vl.thOf i (Nd.got (X.get (11 + i))) (Vl.dtOf X.get (Nd.got (X.get (11 + i)))) else Vl.zero) := rfl
  have HFT : Hid (Nd.err (X.get (11 + i)) = 0 → ∀ d, Fits (Vl.thOf i (Nd.got (X.get (11 + i))) d)) := fun he d => Vl.thOf_fits hi he d
  have HOK : Hid (Nd.err (X.get (11 + i)) = 0 → (Nd.got (X.get (11 + i))).okB = true) := fun he => (Nd.got_back _ he).1
  have HWD : Hid ((Nd.got (X.get (11 + i))).Wide) := Nd.wide_got _
  generalize Nd.got (X.get (11 + i)) = nd at *
  generalize Nd.err (X.get (11 + i)) = ze at *
  go_upto_region 6 with (first
    | (refine wpList_alloc_any rfl 85 rfl _ zero_I ?_; intro w4 hb4 hs4 hw4)
    | (refine wpList_store_part rfl 85 (.tmp 6) (.tmp 28) rfl _ 0 (nic nd (.slice B nd.bl.length c3)) rfl rfl 85 zI hb4 size_N (by simp [nic, zI]) (nic_row _ _ _ _) ?_
       intro w5 hb5 hs5 hk5))
  have HG5 : Hid (Bw w5 w3.heap.size (nic nd (.slice B nd.bl.length c3)) 85) := hb5
  have hbw : Below w3.heap.size w3 w5 := hw4.trans (hk5.below2 (fun k hk => by omega))
  have HW5 := Lib.hid (HW3.out.trans (hbw.mono HW3.out.size))
  have HR5 := Lib.hid (HR3.out.below hbw)
  have HN5 := Lib.hid (HN3.out.below hbw)
  clear hb4 hs4 hw4 hb5 hs5 hk5 hbw HW3 HR3 HN3
  by_cases hze : ze = 0
  rotate_left
  · have hd : (ze != 0) = true := by simpa using hze
    have HZ : Hid (Vl.ldE Sl.dirB x.n X.get i = ze ∧ ze ≠ 0) := ⟨by rw [HE0.out, if_pos hze], hze⟩
    clear hze
    go_wp2_with (first
      | (refine wpList_build rfl 32 #[] rfl (by show (Tryz.prog.built _ []).isSome = true; rw [built_Slz]; rfl) ?_; rw [show (Tryz.prog.built 32 (Array.map _ #[]).toList) = _ from built_Slz])
      | (refine wpList_store_part rfl 32 (.tmp 4) (.tmp 32) rfl w.heap.size 0 (sc Sl.zero (.slice none 0 0)) rfl rfl 32 _ HR5.out size_Sl (by simp [sc]) (sc_row _ _ _ _) ?_
         intro y hb _ hk
         have HB := Lib.hid hb
         have HK := Lib.hid hk
         clear hb hk))
    exact bodyPost_ret (results_cell rfl _ y w.heap.size (.int .i64 ze) HB.out size_Sl (by rfl) (by rfl) Tryz.underlying32) rfl (LoadQ.no HZ.out.1 HZ.out.2 (HW5.out.trans (HK.out.below2 (fun k hk => by have := HW5.out.size; omega))))
  subst hze
  go_wp2_with (refine wpList_load_part rfl 85 (.tmp 6) rfl _ 0 rfl _ Tryz.underlying85 rfl (nic nd (.slice B nd.bl.length c3)) 85 _ HG5.out size_N (fun j u hu => by rw [Nat.zero_add]; exact hu) ?_)
  refine (content_any (HT.out.below HW5.out) hN hN2 HSM.out nd (HOK.out trivial) HWD.out B c3 HN5.out).mono ?_
  rintro e w6 ⟨A6, k6, c6, d6, rfl, hx6, hk6, hw6, hd6, hn6, hc6⟩
  have HX6 := Lib.hid hx6
  have HCP := Lib.hid hc6
  have HNW : Hid (∀ ad, A6 = some ad → w.heap.size ≤ ad.block) := fun ad e => Nat.le_trans HW5.out.size (hn6 ad e)
  have HK6 := Lib.hid hk6
  have HD6 := Lib.hid hd6
  have HR6 := Lib.hid (HR5.out.below hw6)
  have HG6 := Lib.hid (HG5.out.below hw6)
  have HW6 := Lib.hid (HW5.out.trans (hw6.mono HW5.out.size))
  clear hx6 hk6 hd6 hw6 hn6 hc6 HR5 HG5 HW5 HN5
  have hi32 : (i : Int) % 4294967296 = (i : Int) := Int.emod_eq_of_lt (by omega) (by omega)
  go_wp2_with (refine wpList_load_part rfl 85 (.tmp 6) rfl _ 0 rfl _ Tryz.underlying85 rfl (nic nd (.slice B nd.bl.length c3)) 85 _ HG6.out size_N (fun j u hu => by rw [Nat.zero_add]; exact hu) ?_)
  refine (slotOf_any i nd (.slice B nd.bl.length c3) A6 k6 c6 w6).mono ?_
  rintro e w7 ⟨rfl, hw7⟩
  have HX7 := Lib.hid (HX6.out.below hw7)
  have HR7 := Lib.hid (HR6.out.below hw7)
  have HW7 := Lib.hid (HW6.out.trans (hw7.mono HW6.out.size))
  have HLT7 : Hid (w.heap.size < w7.heap.size) := HR7.out.lt
  clear hw7 HX6 HR6 HG6 HW6
  go_upto_region 10 with (first
    | (refine wpList_alloc_any rfl 32 rfl _ zero_Sl ?_; intro w8 hb8 hs8 hw8)
    | (refine wpList_store_part rfl 32 (.tmp 10) (.tmp 44) rfl _ 0 (sc (Vl.thOf i nd []) (.slice A6 k6 c6)) rfl rfl 32 (sc Sl.zero (.slice none 0 0)) hb8 size_Sl (by simp [sc]) (sc_row _ _ _ _) ?_
       intro w9 hb9 hs9 hk9))
  have HV9 : Hid (Bw w9 w7.heap.size (sc (Vl.thOf i nd []) (.slice A6 k6 c6)) 32) := hb9
  have hbw : Below w7.heap.size w7 w9 := hw8.trans (hk9.below2 (fun k hk => by omega))
  have HW9 := Lib.hid (HW7.out.trans (hbw.mono HW7.out.size))
  have HR9 := Lib.hid (HR7.out.below hbw)
  have HX9 := Lib.hid (HX7.out.below hbw)
  clear hb8 hs8 hw8 hb9 hs9 hk9 hbw HW7 HR7 HX7
  generalize hbo : Vl.bsOk x.n X.get nd.size nd.bl 0 = bo at *
  clear hbo
  cases bo with
  | false =>
    have HZ : Hid (Vl.ldE Sl.dirB x.n X.get i = 11 ∧ (11 : Int) ≠ 0) := ⟨by rw [HE0.out, if_neg (by simp), if_neg (by simp)], by omega⟩
    go_wp2_with (first
      | (refine wpList_build rfl 32 #[] rfl (by show (Tryz.prog.built _ []).isSome = true; rw [built_Slz]; rfl) ?_; rw [show (Tryz.prog.built 32 (Array.map _ #[]).toList) = _ from built_Slz])
      | (refine wpList_store_part rfl 32 (.tmp 4) (.tmp 52) rfl w.heap.size 0 (sc Sl.zero (.slice none 0 0)) rfl rfl 32 _ HR9.out size_Sl (by simp [sc]) (sc_row _ _ _ _) ?_
         intro y hb _ hk
         have HB := Lib.hid hb
         have HK := Lib.hid hk
         clear hb hk))
    exact bodyPost_ret (results_cell rfl _ y w.heap.size (.int .i64 11) HB.out size_Sl (by rfl) (by rfl) Tryz.underlying32) rfl (LoadQ.no HZ.out.1 HZ.out.2 (HW9.out.trans (HK.out.below2 (fun k hk => by have := HW9.out.size; omega))))
  | true =>
    have HDE : Hid (d6 = Vl.dtOf X.get nd) := HD6.out rfl
    have HX : Hid (BS w9 A6 k6 (Vl.thOf i nd d6).dt) := HX9.out
    rw [show sc (Vl.thOf i nd []) (.slice A6 k6 c6) = sc (Vl.thOf i nd d6) (.slice A6 k6 c6) from rfl] at HV9
    have HFD := Lib.hid (HFT.out trivial d6)
    rw [← HDE.out] at HE0 HD0
    generalize Vl.thOf i nd d6 = th at *
    have q0 := HV9.out.cell 0 _ rfl
    have q1 := HV9.out.cell 1 _ rfl
    have q2 := HV9.out.cell 2 _ rfl
    have q3 := HV9.out.cell 3 _ rfl
    have q4 := HV9.out.cell 4 _ rfl
    have q5 := HV9.out.cell 5 _ rfl
    have q6 := HV9.out.cell 6 _ rfl
    have q7 := HV9.out.cell 7 _ rfl
    have q8 := HV9.out.cell 8 _ rfl
    go_wp2_with fail
    refine (checkS_any th A6 k6 c6 _ HFD.out HX.out (Nat.le_trans HK6.out (by omega))).mono ?_
    rintro e w10 ⟨rfl, hw10⟩
    have HR10 := Lib.hid (HR9.out.below hw10)
    have HV10 := Lib.hid (HV9.out.below hw10)
    have HW10 := Lib.hid (HW9.out.trans (hw10.mono HW9.out.size))
    have HX10 := Lib.hid (HX.out.below hw10)
    clear hw10 HR9 HV9 HW9 HX9 HX q0 q1 q2 q3 q4 q5 q6 q7 q8
    by_cases hok : Sl.okS th = true
    · have HC : Hid (Sl.chkS th = 0) := if_pos hok
      have HZ : Hid (Vl.ldE Sl.dirB x.n X.get i = 0) := by show _ = _; rw [HE0.out, if_neg (by simp), if_pos ⟨trivial, hok⟩]
      have HL : Hid (Vl.ld Sl.dirB x.n X.get i = th) := by show _ = _; rw [HD0.out, if_pos HZ.out]
      rw [HC.out]
      clear hok
      go_wp2_with (first
        | (refine wpList_load_part rfl 32 (.tmp 10) rfl _ 0 rfl _ Tryz.underlying32 rfl (sc th (.slice A6 k6 c6)) 32 _ HV10.out size_Sl (fun j u hu => by rw [Nat.zero_add]; exact hu) ?_)
        | (refine wpList_store_part rfl 32 (.tmp 4) (.tmp 53) rfl w.heap.size 0 (sc th (.slice A6 k6 c6)) rfl rfl 32 _ HR10.out size_Sl (by simp [sc]) (sc_row _ _ _ _) ?_
           intro y hb _ hk
           have HB := Lib.hid hb
           have HK := Lib.hid hk
           clear hb hk))
      refine bodyPost_ret (results_cell rfl _ y w.heap.size (.int .i64 0) HB.out size_Sl (by rfl) (by rfl) Tryz.underlying32) rfl ?_
      unfold LoadQ
      rw [HZ.out, HL.out]
      exact ⟨A6, k6, c6, rfl, HX10.out.off (sc_no8 HR10.out) (fun k _ hk => HK.out.block k hk), Nat.le_trans HK6.out (by omega), HW10.out.trans (HK.out.below2 (fun k hk => by have := HW10.out.size; omega)), HNW.out, HCP.out⟩
    · have HC : Hid (Sl.chkS th = 1) := if_neg hok
      have HZ : Hid (Vl.ldE Sl.dirB x.n X.get i = 11 ∧ (11 : Int) ≠ 0) := ⟨by rw [HE0.out, if_neg (by simp), if_neg (fun h => hok h.2)], by omega⟩
      rw [HC.out]
      clear hok
      go_wp2_with (first
      | (refine wpList_build rfl 32 #[] rfl (by show (Tryz.prog.built _ []).isSome = true; rw [built_Slz]; rfl) ?_; rw [show (Tryz.prog.built 32 (Array.map _ #[]).toList) = _ from built_Slz])
      | (refine wpList_store_part rfl 32 (.tmp 4) (.tmp 52) rfl w.heap.size 0 (sc Sl.zero (.slice none 0 0)) rfl rfl 32 _ HR10.out size_Sl (by simp [sc]) (sc_row _ _ _ _) ?_
         intro y hb _ hk
         have HB := Lib.hid hb
         have HK := Lib.hid hk
         clear hb hk))
      exact bodyPost_ret (results_cell rfl _ y w.heap.size (.int .i64 11) HB.out size_Sl (by rfl) (by rfl) Tryz.underlying32) rfl (LoadQ.no HZ.out.1 HZ.out.2 (HW10.out.trans (HK.out.below2 (fun k hk => by have := HW10.out.size; omega))))
end
end Go.Proofs.YtnhokkdieijkhaaGreatDoor

namespace Go.Proofs.YtnhokkdieijkhaaGreatDoor
open Go.RowKit

/-- The cells of slots. -/
def scs : List Vl.Th → List Sl → List Value
  | x :: l, s :: r => sc x s.v ++ scs l r
  | _, _ => []
theorem sc_len (x : Vl.Th) (v : Value) : (sc x v).length = 9 := rfl
theorem scs_len : ∀ (l : List Vl.Th) (sl : List Sl), sl.length = l.length → (scs l sl).length = l.length * 9
  | [], _, _ => by simp [scs]
  | x :: l, [], h => by simp at h
  | x :: l, s :: r, h => by
    have := scs_len l r (by simpa using h)
    simp only [scs, List.length_append, this, List.length_cons, sc_len]
    omega
theorem scs_snoc : ∀ (l : List Vl.Th) (sl : List Sl) (x : Vl.Th) (s : Sl), sl.length = l.length → scs (l ++ [x]) (sl ++ [s]) = scs l sl ++ sc x s.v
  | [], [], x, s, _ => by simp [scs]
  | [], _ :: _, _, _, h => by simp at h
  | _ :: _, [], _, _, h => by simp at h
  | y :: l, t :: r, x, s, h => by
    simp only [List.cons_append, scs, scs_snoc l r x s (by simpa using h), List.append_assoc]
theorem scs_get : ∀ (l : List Vl.Th) (sl : List Sl) (h : sl.length = l.length) (k : Nat) (hk : k < l.length) (j : Nat), j < 9 → (scs l sl)[k * 9 + j]? = (sc l[k] (sl[k]'(by omega)).v)[j]?
  | [], _, _, k, hk, _, _ => by simp at hk
  | _ :: _, [], h, _, _, _, _ => by simp at h
  | x :: l, s :: r, h, k, hk, j, hj => by
    match k with
    | 0 =>
      simp only [scs, Nat.zero_mul, Nat.zero_add, List.getElem_cons_zero]
      rw [List.getElem?_append_left (by rw [sc_len]; exact hj)]
    | k + 1 =>
      have := scs_get l r (by simpa using h) k (by simpa using hk) j hj
      simp only [scs, List.getElem_cons_succ]
      rw [List.getElem?_append_right (by rw [sc_len]; omega), sc_len, show (k + 1) * 9 + j - 9 = k * 9 + j by omega]
      exact this
/-- A slice that reads as slots. -/
def SS (w : World) (A : Option Addr) (n : Nat) (l : List Vl.Th) : Prop :=
  l.length = n ∧ (0 < n → ∃ b o, A = some ⟨b, o, none⟩ ∧ ∀ k (h : k < l.length), ∃ y : Sl, (∀ j u, (sc l[k] (.slice y.a y.n y.c))[j]? = some u → w.cell? ⟨b, o + k * 9 + j, none⟩ = some u) ∧ BS w y.a y.n l[k].dt ∧ y.n ≤ y.c)
theorem SS.nil {w : World} {A : Option Addr} : SS w A 0 [] := ⟨rfl, fun h => absurd h (by omega)⟩
theorem SS.at {w : World} {A : Option Addr} {n : Nat} {l : List Vl.Th} (h : SS w A n l) {k : Nat} (hk : k < n) : ∃ b o, ∃ y : Sl, ∃ hl : k < l.length, A = some ⟨b, o, none⟩ ∧ (∀ j u, (sc l[k] (.slice y.a y.n y.c))[j]? = some u → w.cell? ⟨b, o + k * 9 + j, none⟩ = some u) ∧ BS w y.a y.n l[k].dt ∧ y.n ≤ y.c := by
  have hl : k < l.length := by rw [h.1]; exact hk
  obtain ⟨b, o, e, hc⟩ := h.2 (by omega)
  obtain ⟨y, h1, h2, h3⟩ := hc k hl
  exact ⟨b, o, y, hl, e, h1, h2, h3⟩
theorem SS.keep {w w' : World} {A : Option Addr} {n : Nat} {l : List Vl.Th} (h : SS w A n l) (hk : ∀ p : Addr, p.block < w.heap.size → w'.cell? p = w.cell? p) : SS w' A n l := by
  refine ⟨h.1, fun hn => ?_⟩
  obtain ⟨b, o, e, hc⟩ := h.2 hn
  refine ⟨b, o, e, fun k hl => ?_⟩
  obtain ⟨y, h1, h2, h3⟩ := hc k hl
  exact ⟨y, fun j u hu => (hk ⟨b, o + k * 9 + j, none⟩ (World.block_lt_of_cell? w _ (h1 j u hu))).trans (h1 j u hu), h2.keep fun p hp => hk p hp, h3⟩
theorem SS.below {w w' : World} {A : Option Addr} {n : Nat} {l : List Vl.Th} (h : SS w A n l) (hb : Below w.heap.size w w') : SS w' A n l := h.keep fun _ hp => hb.cell hp
/-- Slots in a row of the call's own. -/
structure SR (W : World) (base : Nat) (A : Option Addr) (c : Nat) (l : List Vl.Th) (sl : List Sl) : Prop where
  len : sl.length = l.length
  row : W.ownsRow base 32 9 (.slice A l.length c) l.length (scs l sl)
  bs : ∀ i (h : i < sl.length), BS W sl[i].a sl[i].n (l[i]'(by rw [← len]; exact h)).dt
  cap : ∀ i (h : i < sl.length), sl[i].n ≤ sl[i].c
  off : ∀ i (h : i < sl.length), 0 < sl[i].n → ∀ ad, sl[i].a = some ad → (Value.slice A l.length c).ownBlock ≠ some ad.block
theorem SR.nil (W : World) (base : Nat) : SR W base none 0 [] [] := ⟨rfl, World.ownsRow_nil _ _ _ _, fun i h => by simp at h, fun i h => by simp at h, fun i h => by simp at h⟩
theorem SR.ss {W : World} {base : Nat} {A : Option Addr} {c : Nat} {l : List Vl.Th} {sl : List Sl} (h : SR W base A c l sl) : SS W A l.length l := by
  refine ⟨rfl, fun hn => ?_⟩
  rcases h.row.2 with ⟨h1, h2⟩ | ⟨g, cap, cur, h1, h2, h3, h4, h5, h6, h7⟩
  · omega
  · injection h1 with h1 _ _
    refine ⟨g, 0, h1, fun k hk => ⟨sl[k]'(by rw [h.len]; exact hk), fun j u hu => ?_, h.bs k (by rw [h.len]; exact hk), h.cap k (by rw [h.len]; exact hk)⟩⟩
    have hj : j < 9 := by
      have := (List.getElem?_eq_some_iff.1 hu).1
      rwa [sc_len] at this
    have hg := scs_get l sl h.len k hk j hj
    rw [show sc l[k] (sl[k]'(by rw [h.len]; exact hk)).v = sc l[k] (.slice (sl[k]'(by rw [h.len]; exact hk)).a (sl[k]'(by rw [h.len]; exact hk)).n (sl[k]'(by rw [h.len]; exact hk)).c) from rfl, hu] at hg
    have := h.row.cells (g := g) (by rw [h1]; rfl) _ _ hg
    rw [add_plain] at this
    rw [show 0 + k * 9 + j = 0 + (k * 9 + j) by omega]
    exact this
theorem SR.below {W W' : World} {base : Nat} {A : Option Addr} {c : Nat} {l : List Vl.Th} {sl : List Sl} (h : SR W base A c l sl) (hb : Below W.heap.size W W') : SR W' base A c l sl :=
  ⟨h.len, own_beneath h.row hb, fun i hi => (h.bs i hi).below hb, h.cap, h.off⟩
theorem SR.place {W : World} {base : Nat} {A : Option Addr} {c : Nat} {sl : List Sl} {l : List Vl.Th} (h : SR W base A c l sl) (b : Nat) (e : (Value.slice A l.length c).ownBlock = some b) : base ≤ b ∧ b < W.heap.size := h.row.lt b e
theorem SR.append {w7 w8 : World} {base : Nat} {A A' : Option Addr} {c c' : Nat} {l : List Vl.Th} {sl : List Sl} {x : Vl.Th} {s : Sl} (h : SR w7 base A c l sl) (h8 : w8.ownsRow base 32 9 (.slice A' (l.length + 1) c') (l.length + 1) (scs l sl ++ sc x s.v)) (hg : w7.grownBy w8 (Value.slice A l.length c).ownBlock)
    (hat : (Value.slice A' (l.length + 1) c').ownBlock = (Value.slice A l.length c).ownBlock ∨ (Value.slice A' (l.length + 1) c').ownBlock = some w7.heap.size) (hb : BS w7 s.a s.n x.dt) (hc : s.n ≤ s.c) (hs : 0 < s.n → ∀ ad, s.a = some ad → (Value.slice A l.length c).ownBlock ≠ some ad.block) : SR w8 base A' c' (l ++ [x]) (sl ++ [s]) := by
  have keepB : ∀ (a : Option Addr) (n : Nat) (b : List UInt8), BS w7 a n b → (0 < n → ∀ ad, a = some ad → (Value.slice A l.length c).ownBlock ≠ some ad.block) → BS w8 a n b := fun a n b hB ho =>
    ⟨hB.1, fun hn => by
      obtain ⟨bb, o, e, hcell⟩ := hB.2 hn
      exact ⟨bb, o, e, fun j hj => (World.cell?_of_block (hg.block bb (World.block_lt_of_cell? w7 _ (hcell j hj)) (fun e' => ho hn _ e e'.symm))).trans (hcell j hj)⟩⟩
  have offB : ∀ (a : Option Addr) (n : Nat) (b : List UInt8), BS w7 a n b → (0 < n → ∀ ad, a = some ad → (Value.slice A l.length c).ownBlock ≠ some ad.block) → (0 < n → ∀ ad, a = some ad → (Value.slice A' (l.length + 1) c').ownBlock ≠ some ad.block) := fun a n b hB ho hn ad e => by
    rcases hat with h1 | h1
    · rw [h1]; exact ho hn ad e
    · rw [h1]
      have := hB.lt_block hn ad e
      simp
      omega
  have hlen : (sl ++ [s]).length = (l ++ [x]).length := by simp [h.len]
  refine ⟨hlen, ?_, fun i hi => ?_, fun i hi => ?_, fun i hi h0 ad e => ?_⟩
  · rw [List.length_append, scs_snoc _ _ _ _ h.len]; exact h8
  · by_cases hi' : i < sl.length
    · simp only [List.getElem_append_left hi', List.getElem_append_left (show i < l.length by rw [← h.len]; exact hi')]
      exact keepB _ _ _ (h.bs i hi') (h.off i hi')
    · obtain rfl : i = sl.length := by simp at hi; omega
      have e1 : (sl ++ [s])[sl.length]'hi = s := by simp
      have e2 : ∀ hh, (l ++ [x])[sl.length]'hh = x := by intro hh; simp [h.len]
      rw [e1, e2]
      exact keepB _ _ _ hb hs
  · by_cases hi' : i < sl.length
    · simp only [List.getElem_append_left hi']; exact h.cap i hi'
    · obtain rfl : i = sl.length := by simp at hi; omega
      have e1 : (sl ++ [s])[sl.length]'hi = s := by simp
      rw [e1]; exact hc
  · rw [List.length_append]
    show (Value.slice A' (l.length + 1) c').ownBlock ≠ _
    by_cases hi' : i < sl.length
    · simp only [List.getElem_append_left hi'] at h0 e; exact offB _ _ _ (h.bs i hi') (h.off i hi') h0 ad e
    · obtain rfl : i = sl.length := by simp at hi; omega
      have e1 : (sl ++ [s])[sl.length]'hi = s := by simp
      rw [e1] at h0 e; exact offB _ _ _ hb hs h0 ad e
theorem infos_Sl : (Tryz.prog.info? 32).map (fun i => (i.zero, i.size, i.bytes)) = some (some (.agg (sc Sl.zero (.slice none 0 0)).toArray), 9, 72) := by kernel_rfl
end Go.Proofs.YtnhokkdieijkhaaGreatDoor

namespace Go.Proofs.YtnhokkdieijkhaaGreatDoor
open Go.RowKit

theorem Vl.allE_stay {D : List UInt8 → Nat → Bool} {n : Nat} {B : Nat → List UInt8} {k : Nat} (h : Vl.allE D n B k ≠ 0) : ∀ d, Vl.allE D n B (k + d) = Vl.allE D n B k
  | 0 => rfl
  | d + 1 => by
    have := Vl.allE_stay h d
    show (if Vl.allE D n B (k + d) ≠ 0 then Vl.allE D n B (k + d) else _) = _
    rw [if_pos (by rw [this]; exact h), this]
theorem Vl.allE_hit {D : List UInt8 → Nat → Bool} {n : Nat} {B : Nat → List UInt8} {k : Nat} (h0 : Vl.allE D n B k = 0) (h : Vl.ldE D n B k ≠ 0) (hk : k < 24) : Vl.allE D n B 24 = Vl.ldE D n B k := by
  have h1 : Vl.allE D n B (k + 1) = Vl.ldE D n B k := by
    show (if Vl.allE D n B k ≠ 0 then _ else _) = _
    rw [if_neg (by rw [h0]; simp)]
  have := Vl.allE_stay (k := k + 1) (by rw [h1]; exact h) (24 - (k + 1))
  rw [show k + 1 + (24 - (k + 1)) = 24 by omega] at this
  rw [this, h1]
theorem Vl.allE_next {D : List UInt8 → Nat → Bool} {n : Nat} {B : Nat → List UInt8} {k : Nat} (h0 : Vl.allE D n B k = 0) (h : Vl.ldE D n B k = 0) : Vl.allE D n B (k + 1) = 0 := by
  show (if Vl.allE D n B k ≠ 0 then _ else _) = _
  rw [if_neg (by rw [h0]; simp), h]
/-- The first k things. -/
def Vl.lds (n : Nat) (B : Nat → List UInt8) (k : Nat) : List Vl.Th := (List.range k).map (Vl.ld Sl.dirB n B)
theorem Vl.lds_len (n : Nat) (B : Nat → List UInt8) (k : Nat) : (Vl.lds n B k).length = k := by simp [Vl.lds]
theorem Vl.lds_succ (n : Nat) (B : Nat → List UInt8) (k : Nat) : Vl.lds n B (k + 1) = Vl.lds n B k ++ [Vl.ld Sl.dirB n B k] := by simp [Vl.lds, List.range_succ]
/-- What All hands back. -/
def AllQ (n : Nat) (B : Nat → List UInt8) (w : World) (e : Ending) (w' : World) : Prop :=
  ∃ A c l, e = .returned (.tuple #[.slice A l.length c, .int .i64 (Vl.allE Sl.dirB n B 24)]) ∧ (Vl.allE Sl.dirB n B 24 = 0 → l = Vl.lds n B 24) ∧ (Vl.allE Sl.dirB n B 24 ≠ 0 → l = []) ∧ SS w' A l.length l ∧ Below w.heap.size w w'
theorem sc_news (w2 : World) (x : Vl.Th) (v : Value) : ∀ j u, (sc x v)[j]? = some u → (w2.alloc (.cells #[.int .u32 (x.ino : Int), .int .u32 (x.kind : Int), .int .u32 (x.gen : Int), .int .u32 (x.links : Int), .int .u32 (x.mode : Int), .int .u64 (x.change : Int), .int .u64 (x.cookie : Int), .int .u64 (x.verf : Int), v] 32)).cell? ((⟨w2.heap.size, 0, none⟩ : Addr).add j) = some u := fun j u hu =>
  World.news_of_block (heap_alloc_new w2 _) j u (by simpa [sc] using hu)

section
variable {w : World} {p m : Nat} {x : Sl} {S : Nat → Prop} {X : TX}
set_option maxRecDepth 100000 in
set_option maxHeartbeats 2000000 in
theorem all_vol (h : Tq w p m x S X) (hN : 36 ≤ x.n) (hN2 : x.n ≤ 803) (hs : ∀ i, (X.get i).length ≤ 96) :
    Calls Tryz.prog 14 #[.pointer (some ⟨p, 0, none⟩)] w (AllQ x.n X.get w) := by
  obtain ⟨i0, hi0, hz0, hz1, hz2⟩ := info_parts infos_Sl
  have HI0 := Lib.hid hi0
  have HZ0 := Lib.hid hz0
  have HZ1 := Lib.hid hz1
  have HZ2 := Lib.hid hz2
  have HT := Lib.hid h
  have HSM := Lib.hid hs
  clear hi0 hz0 hz1 hz2 h hs
  go_enter Tryz.func14, Tryz.ntmps14
  go_wp2_with fail
  go_loopw [4, 8] (fun s i wr => ∃ (k c : Nat) (A : Option Addr) (sl : List Sl), k ≤ 24 ∧ i = .int .i64 k ∧ s = .slice A k c ∧ Hid (Below w.heap.size w wr) ∧ Hid (SR wr w.heap.size A c (Vl.lds x.n X.get k) sl) ∧ Hid (Vl.allE Sl.dirB x.n X.get k = 0)) (fun _ i _ => 24 - (intOf i).toNat)
  case atStart => exact ⟨0, 0, none, [], by omega, rfl, rfl, Below.refl _ _, SR.nil _ _, rfl⟩
  case round =>
    obtain ⟨k, c, A, sl, hk, rfl, rfl, HB, HW, HA⟩ := hrel
    by_cases hlt : k < 24
    · go_wp2_with fail
      refine (load_any (HT.out.below HB.out) hN hN2 HSM.out k hlt).mono ?_
      rintro e w1 ⟨A1, k1, c1, rfl, h1, h2, h3, h4, h5⟩
      have HX1 := Lib.hid h1
      have HB1 := Lib.hid h3
      have HN1 := Lib.hid h4
      have HK1 := Lib.hid h2
      have HC1 := Lib.hid h5
      clear h1 h2 h3 h4 h5
      have HHIT : Hid (Vl.ldE Sl.dirB x.n X.get k ≠ 0 → Vl.allE Sl.dirB x.n X.get 24 = Vl.ldE Sl.dirB x.n X.get k) := fun hn => Vl.allE_hit HA.out hn hlt
      have HNEXT : Hid (Vl.ldE Sl.dirB x.n X.get k = 0 → Vl.allE Sl.dirB x.n X.get (k + 1) = 0) := fun hn => Vl.allE_next HA.out hn
      have HSUC := Lib.hid (Vl.lds_succ x.n X.get k)
      generalize Vl.ld Sl.dirB x.n X.get k = th at *
      generalize Vl.ldE Sl.dirB x.n X.get k = z at *
      go_upto_region 6 with (first
        | (refine wpList_alloc_any rfl 32 rfl _ zero_Sl ?_; intro w2 hb2 hs2 hw2)
        | (refine wpList_store_part rfl 32 (.tmp 6) (.tmp 15) rfl _ 0 (sc th (.slice A1 k1 c1)) rfl rfl 32 (sc Sl.zero (.slice none 0 0)) hb2 size_Sl (by simp [sc]) (sc_row _ _ _ _) ?_
           intro w3 hb3 hs3 hk3))
      have hV3 : Bw w3 w1.heap.size (sc th (.slice A1 k1 c1)) 32 := hb3
      have hbw : Below w1.heap.size w1 w3 := hw2.trans (hk3.below2 (fun k hk => by omega))
      have HW3 : Hid (Below wr.heap.size wr w3) := HB1.out.trans (hbw.mono HB1.out.size)
      have HX3 := Lib.hid (HX1.out.below hbw)
      clear hb2 hs2 hw2 hb3 hs3 hk3 hbw HX1
      by_cases hz : z = 0
      · subst hz
        have q0 := hV3.cell 0 _ rfl
        have q1 := hV3.cell 1 _ rfl
        have q2 := hV3.cell 2 _ rfl
        have q3 := hV3.cell 3 _ rfl
        have q4 := hV3.cell 4 _ rfl
        have q5 := hV3.cell 5 _ rfl
        have q6 := hV3.cell 6 _ rfl
        have q7 := hV3.cell 7 _ rfl
        have q8 := hV3.cell 8 _ rfl
        clear hV3
        have HRM : Hid ((w3.alloc (.cells #[.int .u32 (th.ino : Int), .int .u32 (th.kind : Int), .int .u32 (th.gen : Int), .int .u32 (th.links : Int), .int .u32 (th.mode : Int), .int .u64 (th.change : Int), .int .u64 (th.cookie : Int), .int .u64 (th.verf : Int), .slice A1 k1 c1] 32)).ownsRow w.heap.size 32 9 (.slice A k c) k (scs (Vl.lds x.n X.get k) sl)) := by
          have := fun o => (HW.out.below (HW3.out.alloc HW3.out.size o)).row
          simp only [Vl.lds_len] at this
          exact this _
        have hsz : w.heap.size ≤ (w3.alloc (.cells #[.int .u32 (th.ino : Int), .int .u32 (th.kind : Int), .int .u32 (th.gen : Int), .int .u32 (th.links : Int), .int .u32 (th.mode : Int), .int .u64 (th.change : Int), .int .u64 (th.cookie : Int), .int .u64 (th.verf : Int), .slice A1 k1 c1] 32)).heap.size := by
          have h5 := HB.out.size
          have h6 := HW3.out.size
          rw [World.size_alloc]
          omega
        go_wp2_with (at_builtin
                     go_must (refine wpList_append_own_at _ rfl (.tmp 20) (.tmp 22) 27 rfl w.heap.size 32 i0 _ 9 72 Tryz.underlying27 HI0.out HZ0.out HZ1.out HZ2.out rfl (by omega) (.slice A k c) k (scs (Vl.lds x.n X.get k) sl) rfl HRM.out ⟨w3.heap.size, 0, none⟩ 1 1 (sc th (.slice A1 k1 c1)) rfl (by simp [sc]) (sc_news w3 th (.slice A1 k1 c1)) (sc_row _ _ _ _) (by unfold maxLen; omega) (by omega) hsz ?_)
                     intro v' w8 hown' hgrow _ hat
                     obtain ⟨g', cap', rfl⟩ := ownsRow_succ hown'
                     have HMO : Hid (SR w8 w.heap.size (some ⟨g', 0, none⟩) cap' (Vl.lds x.n X.get (k + 1)) (sl ++ [⟨A1, k1, c1⟩])) := by
                       show SR _ _ _ _ _ _
                       rw [HSUC.out]
                       have hk := Vl.lds_len x.n X.get k
                       refine (HW.out.below (HW3.out.alloc HW3.out.size _)).append (x := th) (s := ⟨A1, k1, c1⟩) (by rw [hk]; exact hown') (by rw [hk]; exact hgrow) (by rw [hk]; exact hat) (HX3.out.alloc _) HC1.out (fun _ ad e e' => ?_)
                       have h1 := (HW.out.place _ e').2
                       have h2 := HN1.out ad e
                       omega
                     have HBO : Hid (Below w.heap.size w w8) := (HB.out.trans ((HW3.out.alloc HW3.out.size _).mono HB.out.size)).grown hgrow hsz (fun b hb => (HRM.out.lt b hb).1)
                     clear hown' hgrow hat)
        go_roundw
        case rel => exact ⟨k + 1, cap', some ⟨g', 0, none⟩, _, by omega, by go_num, rfl, HBO, HMO, HNEXT.out rfl⟩
        case measure => simp [intOf]; omega
      · have hd : (z != 0) = true := by simpa using hz
        have HZ : Hid (Vl.allE Sl.dirB x.n X.get 24 = z ∧ z ≠ 0) := ⟨HHIT.out hz, hz⟩
        clear hz
        go_wp2
        refine bodyPost_ret (results_tmp2 rfl _ _ _) rfl ?_
        exact ⟨none, 0, [], by rw [HZ.out.1]; rfl, fun h => absurd (HZ.out.1.symm.trans h) HZ.out.2, fun _ => rfl, SS.nil, HB.out.trans (HW3.out.mono HB.out.size)⟩
    · obtain rfl : k = 24 := by omega
      have HL := Lib.hid (Vl.lds_len x.n X.get 24)
      go_wp2
      refine bodyPost_ret (results_tmp2 rfl _ _ _) rfl ?_
      exact ⟨A, c, Vl.lds x.n X.get 24, by rw [HA.out, HL.out]; rfl, fun _ => rfl, fun h => absurd HA.out h, HW.out.ss, HB.out⟩
set_option maxRecDepth 100000 in
set_option maxHeartbeats 1000000 in
/-- A transaction that is none. -/
theorem load_none (i : Nat) (w : World) : Calls Tryz.prog 20 #[.pointer none, .int .i64 (i : Int)] w (fun e w' => e = .returned (.tuple #[.agg (sc Sl.zero (.slice none 0 0)).toArray, .int .i64 1]) ∧ Below w.heap.size w w') := by
  go_enter Tryz.func20, Tryz.ntmps20
  go_upto_region 1 with (refine wpList_alloc_any rfl 32 rfl _ zero_Sl ?_; intro w1 hb1 hs1 hw1)
  have HR1 : Hid (Bw w1 w.heap.size (sc Sl.zero (.slice none 0 0)) 32) := hb1
  have HW1 := Lib.hid hw1
  clear hb1 hs1 hw1
  go_wp2_with fail
  refine (isVol_nil w1).mono ?_
  rintro e w' ⟨rfl, rfl⟩
  go_wp2_with (first
    | (refine wpList_build rfl 32 #[] rfl (by show (Tryz.prog.built _ []).isSome = true; rw [built_Slz]; rfl) ?_; rw [show (Tryz.prog.built 32 (Array.map _ #[]).toList) = _ from built_Slz])
    | (refine wpList_store_part rfl 32 (.tmp 4) (.tmp 14) rfl w.heap.size 0 (sc Sl.zero (.slice none 0 0)) rfl rfl 32 _ HR1.out size_Sl (by simp [sc]) (sc_row _ _ _ _) ?_
       intro y hb _ hk
       have HB := Lib.hid hb
       have HK := Lib.hid hk
       clear hb hk))
  exact bodyPost_ret (results_cell rfl _ y w.heap.size (.int .i64 1) HB.out size_Sl (by rfl) (by rfl) Tryz.underlying32) rfl ⟨rfl, HW1.out.trans (HK.out.below2 (fun k hk => by have := HW1.out.size; omega))⟩
set_option maxRecDepth 100000 in
set_option maxHeartbeats 1000000 in
theorem all_none (w : World) : Calls Tryz.prog 14 #[.pointer none] w (fun e w' => e = .returned (.tuple #[.slice none 0 0, .int .i64 1]) ∧ Below w.heap.size w w') := by
  have HL := Lib.hid (fun W => load_none 0 W)
  go_enter Tryz.func14, Tryz.ntmps14
  go_wp2_with fail
  go_loopw [4, 8] (fun s i wr => i = .int .i64 ((0 : Nat) : Int) ∧ s = .slice none 0 0 ∧ wr = w) (fun _ i _ => 0)
  case atStart => exact ⟨rfl, rfl, rfl⟩
  case round =>
    obtain ⟨rfl, rfl, rfl⟩ := hrel
    go_wp2_with fail
    refine (HL.out _).mono ?_
    rintro e w1 ⟨rfl, hw1⟩
    have HW1 := Lib.hid hw1
    clear hw1
    go_upto_region 6 with (first
      | (refine wpList_alloc_any rfl 32 rfl _ zero_Sl ?_; intro w2 hb2 hs2 hw2)
      | (refine wpList_store_part rfl 32 (.tmp 6) (.tmp 15) rfl _ 0 (sc Sl.zero (.slice none 0 0)) rfl rfl 32 (sc Sl.zero (.slice none 0 0)) hb2 size_Sl (by simp [sc]) (sc_row _ _ _ _) ?_
         intro w3 hb3 hs3 hk3))
    have hbw : Below w1.heap.size w1 w3 := hw2.trans (hk3.below2 (fun k hk => by omega))
    have HW3 := Lib.hid (HW1.out.trans (hbw.mono HW1.out.size))
    clear hb2 hs2 hw2 hb3 hs3 hk3 hbw
    go_wp2
    refine bodyPost_ret (results_tmp2 rfl _ _ _) rfl ?_
    exact ⟨rfl, HW3.out⟩
set_option maxRecDepth 100000 in
set_option maxHeartbeats 1000000 in
/-- A number that no thing has. -/
theorem load_24 (h : Tq w p m x S X) (hN : 36 ≤ x.n) (hN2 : x.n ≤ 803) : Calls Tryz.prog 20 #[.pointer (some ⟨p, 0, none⟩), .int .i64 24] w (fun e w' => e = .returned (.tuple #[.agg (sc Sl.zero (.slice none 0 0)).toArray, .int .i64 15]) ∧ Below w.heap.size w w') := by
  have HT := Lib.hid h
  clear h
  go_enter Tryz.func20, Tryz.ntmps20
  go_upto_region 1 with (refine wpList_alloc_any rfl 32 rfl _ zero_Sl ?_; intro w1 hb1 hs1 hw1)
  have HR1 : Hid (Bw w1 w.heap.size (sc Sl.zero (.slice none 0 0)) 32) := hb1
  have HW1 := Lib.hid hw1
  clear hb1 hs1 hw1
  go_wp2_with fail
  refine (isVol_any (HT.out.below HW1.out) hN hN2).mono ?_
  rintro e w' ⟨rfl, rfl⟩
  go_wp2_with (first
    | (refine wpList_build rfl 32 #[] rfl (by show (Tryz.prog.built _ []).isSome = true; rw [built_Slz]; rfl) ?_; rw [show (Tryz.prog.built 32 (Array.map _ #[]).toList) = _ from built_Slz])
    | (refine wpList_store_part rfl 32 (.tmp 4) (.tmp 21) rfl w.heap.size 0 (sc Sl.zero (.slice none 0 0)) rfl rfl 32 _ HR1.out size_Sl (by simp [sc]) (sc_row _ _ _ _) ?_
       intro y hb _ hk
       have HB := Lib.hid hb
       have HK := Lib.hid hk
       clear hb hk))
  exact bodyPost_ret (results_cell rfl _ y w.heap.size (.int .i64 15) HB.out size_Sl (by rfl) (by rfl) Tryz.underlying32) rfl ⟨rfl, HW1.out.trans (HK.out.below2 (fun k hk => by have := HW1.out.size; omega))⟩
end
end Go.Proofs.YtnhokkdieijkhaaGreatDoor

namespace Go.Proofs.YtnhokkdieijkhaaGreatDoor
open Go.RowKit

section
variable {w : World} {p m : Nat} {x : Sl} {S : Nat → Prop} {X : TX}
set_option maxRecDepth 100000 in
set_option maxHeartbeats 1000000 in
theorem change_vol (h : Tq w p m x S X) (hN : 36 ≤ x.n) (hN2 : x.n ≤ 803) (hs : (X.get 10).length ≤ 96) :
    Calls Tryz.prog 19 #[.pointer (some ⟨p, 0, none⟩)] w fun e w' => e = .returned (.tuple #[.int .u64 (Vl.chN (X.get 10) : Int), .int .i64 (Vl.chE (X.get 10))]) ∧ Below w.heap.size w w' := by
  have HG := Lib.hid (get_ok h 10 (by omega))
  have HI := Lib.hid (isVol_any h hN hN2)
  have HL := Lib.hid hs
  clear h hs
  go_enter Tryz.func19, Tryz.ntmps19
  go_wp2_with fail
  refine HI.out.mono ?_
  rintro e w' ⟨rfl, rfl⟩
  go_wp2_with fail
  refine HG.out.mono ?_
  rintro e w1 ⟨A, n, c, rfl, hb, -, -, -, hw1, -⟩
  have HB := Lib.hid hb
  have HLN : Hid ((X.get 10).length = n) := hb.1
  have HW1 := Lib.hid hw1
  clear hb hw1
  obtain ⟨b, hbe⟩ : ∃ b, X.get 10 = b := ⟨_, rfl⟩
  rw [hbe] at HB HLN HL
  have HBE := Lib.hid hbe
  clear hbe HG
  by_cases hn : n = 0
  · subst hn
    obtain rfl : b = [] := List.eq_nil_of_length_eq_zero HLN.out
    go_wp2
    refine bodyPost_ret (results_tmp2 rfl _ _ _) rfl ?_
    rw [HBE.out, show Vl.chN [] = 0 from if_pos rfl, show Vl.chE [] = 0 from if_pos rfl]
    exact ⟨rfl, HW1.out⟩
  · have hd : ((n : Int) == 0) = false := by simp; omega
    have HE : Hid (Vl.chE b = if endOf (rdN 8 (b, 0)).1.1 (rdN 8 (b, 0)).1.2 ≠ 0 ∨ (rdN 8 (b, 0)).2 = 0 then 11 else 0) := if_neg (by rintro rfl; have := HLN.out; simp at this; omega)
    have HN : Hid (Vl.chN b = if Vl.chE b = 0 then (rdN 8 (b, 0)).2 else 0) := if_neg (by rintro rfl; have := HLN.out; simp at this; omega)
    go_wp2_with fail
    refine (newReader_any A n c b w1 HB.out (by have := HLN.out; have := HL.out; omega)).mono ?_
    rintro e w2 ⟨q, rfl, hrd, hb2, hq⟩
    have HR2 := Lib.hid hrd
    have HW2 : Hid (Below w'.heap.size w' w2) := HW1.out.trans (hb2.mono HW1.out.size)
    have HQ : Hid (w'.heap.size ≤ q) := by show _ ≤ _; have := HW1.out.size; omega
    clear hrd hb2 hq
    go_wp2_with fail
    refine (u64r _ q _ _ HR2.out).mono ?_
    rintro e w3 ⟨rfl, hr3, hg3⟩
    have HR3 := Lib.hid hr3
    have HW3 : Hid (Below w'.heap.size w' w3) := HW2.out.grown hg3 HW2.out.size (fun k e => by cases e; exact HQ.out)
    clear hr3 hg3
    go_wp2_with fail
    refine (end_any _ q _ _ HR3.out).mono ?_
    rintro e w4 ⟨rfl, rfl⟩
    generalize (rdN 8 (b, 0)).2 = v at *
    generalize endOf (rdN 8 (b, 0)).1.1 (rdN 8 (b, 0)).1.2 = z at *
    by_cases hz : z = 0
    · by_cases hv : v = 0
      · have H1 : Hid (Vl.chE b = 11) := by show _ = _; rw [HE.out, if_pos (.inr hv)]
        have H2 : Hid (Vl.chN b = 0) := by show _ = _; rw [HN.out, if_neg (by rw [H1.out]; decide)]
        have hd3 : ((v : Int) == 0) = true := by simp; omega
        have hd4 : (z != 0) = false := by simpa using hz
        clear hz hv
        go_wp2
        refine bodyPost_ret (results_tmp2 rfl _ _ _) rfl ?_
        rw [HBE.out, H1.out, H2.out]
        exact ⟨rfl, HW3.out⟩
      · have H1 : Hid (Vl.chE b = 0) := by show _ = _; rw [HE.out, if_neg (by rintro (h | h); exact h hz; exact hv h)]
        have H2 : Hid (Vl.chN b = v) := by show _ = _; rw [HN.out, if_pos H1.out]
        have hd3 : ((v : Int) == 0) = false := by simp; omega
        have hd4 : (z != 0) = false := by simpa using hz
        clear hz hv
        go_wp2
        refine bodyPost_ret (results_tmp2 rfl _ _ _) rfl ?_
        rw [HBE.out, H1.out, H2.out]
        exact ⟨rfl, HW3.out⟩
    · have H1 : Hid (Vl.chE b = 11) := by show _ = _; rw [HE.out, if_pos (.inl hz)]
      have H2 : Hid (Vl.chN b = 0) := by show _ = _; rw [HN.out, if_neg (by rw [H1.out]; decide)]
      have hd4 : (z != 0) = true := by simpa using hz
      clear hz
      go_wp2
      refine bodyPost_ret (results_tmp2 rfl _ _ _) rfl ?_
      rw [HBE.out, H1.out, H2.out]
      exact ⟨rfl, HW3.out⟩
set_option maxRecDepth 100000 in
set_option maxHeartbeats 1000000 in
theorem change_few (h : Tq w p m x S X) (hN : x.n < 36) : Calls Tryz.prog 19 #[.pointer (some ⟨p, 0, none⟩)] w fun e w' => e = .returned (.tuple #[.int .u64 0, .int .i64 1]) ∧ w' = w := by
  have HI := Lib.hid (isVol_few h hN)
  clear h
  go_enter Tryz.func19, Tryz.ntmps19
  go_wp2_with fail
  refine HI.out.mono ?_
  rintro e w' ⟨rfl, rfl⟩
  go_wp2
  refine bodyPost_ret (results_tmp2 rfl _ _ _) rfl ?_
  exact ⟨rfl, rfl⟩
theorem Ch.after {w w1 w2 : World} {m : Nat} (hb : Below w.heap.size w w1) (hc : Ch (· = m) w1 w2) (hd : Dull w m) : Ch (· = m) w w2 := ⟨(Fr.of_below hb).trans hc.1 (fun k hk => .inl hk), fun k hk => by rw [hk]; exact hd⟩
/-- Behind a change of a transaction. -/
def PutX (w : World) (p m : Nat) (x : Sl) (S : Nat → Prop) (X : TX) (i : Nat) (b : List UInt8) (e : Ending) (w' : World) : Prop := e = .returned (.int .i64 0) ∧ Tq w' p m x S (X.put i b) ∧ Ch (· = m) w w'
theorem putX_any (h : Tq w p m x S X) (hS : ∀ k, w.heap.size ≤ k → S k) (i : Nat) (hi : i < x.n) (A : Option Addr) (n c : Nat) (b : List UInt8) (hb : BS w A n b) (hl : b.length ≤ 96) :
    Calls Tryz.prog 23 #[.pointer (some ⟨p, 0, none⟩), .int .i64 (i : Int), .slice A n c] w (PutX w p m x S X i b) := by
  refine (tput_any h hS (i : Int) A n c b hb).mono ?_
  rintro e w' ⟨rfl, h1, h2⟩
  rw [TX.putI_ok hi hl] at h1
  exact ⟨by rw [TX.perr_ok (hasB_nat hi) hl], h1, h2⟩
set_option maxRecDepth 100000 in
set_option maxHeartbeats 1000000 in
theorem setChange_any (h : Tq w p m x S X) (hS : ∀ k, w.heap.size ≤ k → S k) (hN : 36 ≤ x.n) (hN2 : x.n ≤ 803) (v : Nat) (hv : v < 18446744073709551616) :
    Calls Tryz.prog 18 #[.pointer (some ⟨p, 0, none⟩), .int .u64 (v : Int)] w (PutX w p m x S X 10 (Vl.encC v)) := by
  have HI := Lib.hid (isVol_any h hN hN2)
  have HT := Lib.hid h
  have HS := Lib.hid hS
  clear h hS
  by_cases h0 : v = 0
  · subst h0
    have HP := Lib.hid (putX_any HT.out HS.out 10 (by omega) none 0 0 [] BS.nil (by simp))
    go_enter Tryz.func18, Tryz.ntmps18
    go_wp2_with fail
    refine HI.out.mono ?_
    rintro e w' ⟨rfl, rfl⟩
    go_wp2_with fail
    refine HP.out.mono ?_
    rintro e w1 ⟨rfl, h1, h2⟩
    have H1 := Lib.hid h1
    have H2 := Lib.hid h2
    clear h1 h2
    go_wp2
    go_ret
    exact ⟨rfl, H1.out, H2.out⟩
  · have hd : ((v : Int) == 0) = false := by simp; omega
    have HE : Hid (Vl.encC v = be 8 v) := if_neg h0
    clear h0
    go_enter Tryz.func18, Tryz.ntmps18
    go_wp2_with fail
    refine HI.out.mono ?_
    rintro e w' ⟨rfl, rfl⟩
    go_wp2_with fail
    refine (newWriter_any w').mono ?_
    rintro e w1 ⟨rfl, hw1⟩
    have HW1 : Hid (Wr (· < w'.heap.size) w1 w'.heap.size []) := by rw [← hw1]; exact newWriter_wr w' _ fun k hk => hk
    have HB1 : Hid (Below w'.heap.size w' w1) := by rw [← hw1]; exact (Below.refl _ _).alloc (Nat.le_refl _) _
    clear hw1
    go_wp2_with fail
    refine (u64w _ w1 _ _ _ (by omega) HW1.out (by simp)).mono ?_
    rintro e w2 ⟨rfl, hwr2, hk2⟩
    rw [Int.toNat_natCast, List.nil_append] at hwr2
    have HW2 := Lib.hid hwr2
    have HB2 : Hid (Below w'.heap.size w' w2) := HB1.out.trans hk2.below
    clear hwr2 hk2
    go_wp2_with fail
    refine (out_any _ w2 _ _ HW2.out (by rw [be_length]; omega)).mono ?_
    rintro e w3 ⟨A, c, rfl, ho⟩
    have HB3 : Hid (Below w'.heap.size w' w3) := HB2.out.trans (ho.2.mono HB2.out.size)
    have HX3 := Lib.hid ho.bs
    clear ho
    rw [be_length] at *
    go_wp2_with fail
    refine (putX_any (HT.out.below HB3.out) (fun k hk => HS.out k (Nat.le_trans HB3.out.size hk)) 10 (by omega) A 8 c (be 8 v) HX3.out (by rw [be_length]; omega)).mono ?_
    rintro e w4 ⟨rfl, h1, h2⟩
    have H1 := Lib.hid h1
    have H2 := Lib.hid (Ch.after HB3.out h2 HT.out.puts.dull)
    clear h1 h2
    go_wp2
    go_ret
    unfold PutX
    rw [HE.out]
    exact ⟨rfl, H1.out, H2.out⟩
set_option maxRecDepth 100000 in
set_option maxHeartbeats 1000000 in
theorem setChange_nil (v : Int) (w : World) : Calls Tryz.prog 18 #[.pointer none, .int .u64 v] w fun e w' => e = .returned (.int .i64 1) ∧ w' = w := by
  have HI := Lib.hid (isVol_nil w)
  go_enter Tryz.func18, Tryz.ntmps18
  go_wp2_with fail
  refine HI.out.mono ?_
  rintro e w' ⟨rfl, rfl⟩
  go_wp2
  go_ret
  exact ⟨rfl, rfl⟩
end
theorem dec_size : ∀ i : Fin 100, (Lib.decDigits i.1).length ≤ 2 := by decide +kernel
/-- A number below 100 as a text. -/
theorem itoa_any (i : Nat) (hi : i < 100) (w : World) : Calls Tryz.prog 68 #[.int .i64 (i : Int)] w fun e w' => ∃ s : ByteArray, e = .returned (.string s) ∧ s.size ≤ 2 ∧ w' = w := by
  refine (Tryz.strconv_Itoa_small i hi w).mono ?_
  rintro e w' ⟨rfl, rfl⟩
  exact ⟨_, rfl, by have := dec_size ⟨i, hi⟩; simpa [ByteArray.size] using this, rfl⟩
set_option maxRecDepth 100000 in
set_option maxHeartbeats 1000000 in
theorem error_any (i : Nat) (hi : i < 100) (w : World) : Calls Tryz.prog 39 #[.int .i64 (i : Int)] w fun e w' => ∃ s : ByteArray, e = .returned (.string s) ∧ s.size ≤ 100 ∧ w' = w := by
  go_enter Tryz.func39, Tryz.ntmps39
  go_wp2_with fail
  refine (itoa_any i hi w).mono ?_
  rintro e w' ⟨s, rfl, hs, rfl⟩
  go_wp2
  go_ret
  refine ⟨_, rfl, ?_, rfl⟩
  rw [ByteArray.size_append]
  have h : (⟨#[114, 101, 109, 111, 118, 97, 108, 105, 115, 116, 58, 32, 101, 114, 114, 111, 114, 32]⟩ : ByteArray).size = 18 := rfl
  omega
end Go.Proofs.YtnhokkdieijkhaaGreatDoor

namespace Go.Proofs.YtnhokkdieijkhaaGreatDoor
open Go.RowKit

theorem Nd.got_few (l : List UInt8) : (Nd.got l).bl.length ≤ 8 := by
  by_cases h : Nd.err l = 0
  · exact Nd.okB_len _ (Nd.got_back l h).1
  · unfold Nd.got
    rw [if_neg (fun hh => h hh.2)]
    exact Nat.zero_le _
theorem Vl.owns_le (B : Nat → List UInt8) (x : Nat) : ∀ k, Vl.owns B x k ≤ 8 * k
  | 0 => Nat.le_refl _
  | k + 1 => by
    have h1 := Vl.owns_le B x k
    have h2 : Vl.own1 B k x ≤ 8 := Nat.le_trans List.count_le_length (Nd.got_few _)
    show _ + _ ≤ _
    omega
theorem madeCells_ints (n : Nat) : madeCells (Value.int .i64 0).cells n = Array.replicate n (.int .i64 0) := by
  apply Array.ext'
  simp [madeCells, Value.cells, Nat.mod_one]
  apply List.ext_getElem <;> simp
/-- The cells of so many counts. -/
def fc (n : Nat) (f : Nat → Nat) : List Value := (List.range n).map fun x => Value.int .i64 (f x : Int)
theorem fc_len (n : Nat) (f : Nat → Nat) : (fc n f).length = n := by simp [fc]
theorem fc_get {n : Nat} {f : Nat → Nat} {x : Nat} (h : x < n) : (fc n f)[x]? = some (.int .i64 (f x : Int)) := by simp [fc, h]
theorem fc_up {n : Nat} {f g : Nat → Nat} {b : Nat} (h : ∀ x, x < n → g x = if x = b then f b + 1 else f x) : (fc n f).set b (.int .i64 ((f b : Int) + 1)) = fc n g := by
  apply List.ext_getElem?
  intro i
  rw [List.getElem?_set]
  by_cases hi : i < n
  · rw [fc_get hi, fc_get hi, h i hi]
    by_cases e : b = i
    · subst e
      rw [if_pos rfl, if_pos (by rw [fc_len]; exact hi), if_pos rfl]
      simp
    · rw [if_neg e, if_neg (fun h => e h.symm)]
  · rw [List.getElem?_eq_none (by rw [fc_len]; omega : (fc n g).length ≤ i)]
    split
    · rw [if_neg (by rw [fc_len]; omega)]
    · rw [List.getElem?_eq_none (by rw [fc_len]; omega)]
/-- While blocks are counted: the counts' row at g, the box of its slice at q. -/
structure OI (w : World) (q g n : Nat) (f : Nat → Nat) (W : World) : Prop where
  bel : Below w.heap.size w W
  box : Bw W q [.slice (some ⟨g, 0, none⟩) n n] 112
  row : Bw W g (fc n f) 3
  lq : w.heap.size ≤ q
  lg : w.heap.size ≤ g
theorem OI.below {w W W' : World} {q g n : Nat} {f : Nat → Nat} (h : OI w q g n f W) (hb : Below W.heap.size W W') : OI w q g n f W' := ⟨h.bel.trans (hb.mono h.bel.size), h.box.below hb, h.row.below hb, h.lq, h.lg⟩
theorem OI.congr {w W : World} {q g n : Nat} {f f' : Nat → Nat} (h : OI w q g n f W) (e : ∀ x, x < n → f x = f' x) : OI w q g n f' W := by
  have : fc n f = fc n f' := List.map_congr_left fun x hx => by rw [e x (List.mem_range.1 hx)]
  exact ⟨h.bel, h.box, this ▸ h.row, h.lq, h.lg⟩

theorem NS.off2 {T : IntKind} {w w' : World} {q n : Nat} {A : Option Addr} {xs : List Nat} (h : NS T w A n xs) (hq : ∀ o z, w.cell? ⟨q, o, none⟩ ≠ some (.int T z)) (hk : ∀ k, k ≠ q → w'.heap[k]? = w.heap[k]?) : NS T w' A n xs :=
  ⟨h.1, fun hn => by
    obtain ⟨b, o, e, hc⟩ := h.2 hn
    refine ⟨b, o, e, fun j hj => ?_⟩
    have hbq : b ≠ q := by
      rintro rfl
      exact hq _ _ (hc j hj)
    rw [← hc j hj]
    exact World.cell?_of_block (hk b hbq)⟩
theorem fc_no32 {w : World} {g n : Nat} {f : Nat → Nat} {t : TypeId} (h : Bw w g (fc n f) t) : ∀ o z, w.cell? ⟨g, o, none⟩ ≠ some (.int .u32 z) := by
  intro o z e
  rw [cell_of_row _ _ _ _ _ _ h] at e
  simp only [List.getElem?_toArray] at e
  obtain ⟨h1, h2⟩ := List.getElem?_eq_some_iff.1 e
  simp [fc] at h2
section
variable {w : World} {p m : Nat} {x : Sl} {S : Nat → Prop} {X : TX}
set_option maxRecDepth 100000 in
set_option maxHeartbeats 1000000 in
theorem owners1_any (q g n : Nat) (f f' : Nat → Nat) (b : Nat) (W : World) (hI : OI w q g n f W) (hb : b < n) (hf : f b ≤ 1000) (he : ∀ x, x < n → f' x = if x = b then f b + 1 else f x) :
    Calls Tryz.prog 97 #[.int .i64 (b : Int), .pointer (some ⟨q, 0, none⟩)] W fun e w' => e = .returned (.tuple #[]) ∧ OI w q g n f' w' ∧ ∀ k, k ≠ g → w'.heap[k]? = W.heap[k]? := by
  have k0 := hI.box.cell 0 _ rfl
  have k1 : W.cell? ⟨g, b, none⟩ = some (.int .i64 (f b : Int)) := hI.row.cell b _ (fc_get hb)
  have f1 := hI.row.froz b
  have hne : g ≠ q := by
    rintro rfl
    have h1 := hI.box
    have h2 := hI.row
    unfold Bw at h1 h2
    rw [h1] at h2
    simp only [Option.some.injEq, Obj.cells.injEq] at h2
    exact absurd h2.2.1 (by decide)
  have HN : Hid (OI w q g n f' (W.setCell ⟨g, b, none⟩ (.int .i64 ((f b : Int) + 1)))) := by
    refine ⟨hI.bel.setCell hI.lg _, hI.box.off (fun e => hne e.symm) _, ?_, hI.lq, hI.lg⟩
    have := hI.row.set b (.int .i64 ((f b : Int) + 1))
    rw [fc_up he] at this
    exact this
  have hb' : (b : Int) < (n : Int) := by omega
  clear hI he
  generalize f b = fb at *
  go_enter Tryz.func97, Tryz.ntmps97
  go_wp2
  refine bodyPost_end (results_none rfl _ _ _) rfl ⟨rfl, HN.out, fun k hk => Below.heap_setCell _ _ _ _ hk⟩
/-- What owners hands back. -/
def OwnQ (n : Nat) (B : Nat → List UInt8) (w : World) (e : Ending) (w' : World) : Prop :=
  ∃ g, e = .returned (.slice (some ⟨g, 0, none⟩) n n) ∧ Bw w' g (fc n fun x => Vl.owns B x 24) 3 ∧ Below w.heap.size w w'
set_option maxRecDepth 100000 in
set_option maxHeartbeats 2000000 in
theorem owners_any (h : Tq w p m x S X) (hN : 36 ≤ x.n) (hN2 : x.n ≤ 803) (hs : ∀ i, (X.get i).length ≤ 96) :
    Calls Tryz.prog 70 #[.pointer (some ⟨p, 0, none⟩)] w (OwnQ (x.n - 35) X.get w) := by
  obtain ⟨ii, hii, hiz, his, hib⟩ := info_parts info_int
  have hmk : ∀ W : World, (Instr.makeSlice 112 (.int .i64 ((x.n - 35 : Nat) : Int)) (.int .i64 ((x.n - 35 : Nat) : Int))).run Tryz.prog W = .ok (.slice (some ⟨W.heap.size, 0, none⟩) (x.n - 35) (x.n - 35)) (W.alloc (.cells (Array.replicate (x.n - 35) (.int .i64 0)) 3)) := fun W => by
    have hr := run_makeSlice (P := Tryz.prog) W 112 3 ii (.int .i64 0) Tryz.underlying112 hii hiz .i64 .i64 ((x.n - 35 : Nat) : Int) ((x.n - 35 : Nat) : Int) (by omega) (by omega) (by rw [his]; simp; omega) (by rw [hib]; omega) (by omega)
    simp only [Int.toNat_natCast, his, Nat.mul_one] at hr
    rw [hr, madeCells_ints]
  have HT := Lib.hid h
  have HSM := Lib.hid hs
  have HR := Lib.hid (room_any h hN hN2)
  clear h hs hii hiz his hib
  go_enter Tryz.func70, Tryz.ntmps70
  go_wp2_with fail
  refine HR.out.mono ?_
  rintro e w' ⟨rfl, rfl⟩
  have HI0 : Hid (OI w' (w'.heap.size + 1) w'.heap.size (x.n - 35) (fun x => Vl.owns X.get x 0) ((w'.alloc (.cells (Array.replicate (x.n - 35) (.int .i64 0)) 3)).alloc (.cells #[.slice (some ⟨w'.heap.size, 0, none⟩) (x.n - 35) (x.n - 35)] 112))) := by
    have e1 := heap_alloc_new w' (.cells (Array.replicate (x.n - 35) (.int .i64 0)) 3)
    have e2 := heap_alloc_new (w'.alloc (.cells (Array.replicate (x.n - 35) (.int .i64 0)) 3)) (.cells #[.slice (some ⟨w'.heap.size, 0, none⟩) (x.n - 35) (x.n - 35)] 112)
    simp only [World.size_alloc] at e2
    refine ⟨((Below.refl _ _).alloc (Nat.le_refl _) _).alloc (by simp) _, e2, ?_, by omega, Nat.le_refl _⟩
    show _ = _
    rw [Below.heap_alloc _ _ _ (by simp), e1]
    congr 2
    apply Array.ext'
    apply List.ext_getElem
    · simp [fc]
    · intro i h1 h2
      simp [fc, Vl.owns]
  go_wp2_with fail
  go_loopw [10] (fun i wr => ∃ k : Nat, k ≤ 24 ∧ i = .int .i64 k ∧ Hid (OI w' (w'.heap.size + 1) w'.heap.size (x.n - 35) (fun x => Vl.owns X.get x k) wr)) (fun i _ => 24 - (intOf i).toNat)
  case atStart => exact ⟨0, by omega, rfl, HI0⟩
  case round =>
    clear HI0 hmk
    obtain ⟨k, hk, rfl, HI⟩ := hrel
    by_cases hlt : k < 24
    · go_wp2_with fail
      rw [show (11 : Int) + (k : Int) = ((11 + k : Nat) : Int) by omega]
      refine (get_ok (HT.out.below HI.out.bel) (11 + k) (by omega)).mono ?_
      rintro e w2 ⟨A, n, c, rfl, hb, -, -, -, hw2, -⟩
      have HB2 := Lib.hid hb
      have HI2 := Lib.hid (HI.out.below hw2)
      clear hb hw2 HI
      go_wp2_with fail
      refine (getI_any A n c _ w2 HB2.out (by rw [← HB2.out.1]; exact Nat.le_trans (HSM.out _) (by omega))).mono ?_
      rintro e w3 ⟨B, c3, rfl, hns, hw3⟩
      have HN3 := Lib.hid hns
      have HI3 := Lib.hid (HI2.out.below hw3)
      clear hns hw3 HI2 HB2
      have HNEW : Hid (∀ x, Vl.owns X.get x (k + 1) = Vl.owns X.get x k + (Nd.got (X.get (11 + k))).bl.count x) := fun x => rfl
      have HFEW := Lib.hid (Nd.got_few (X.get (11 + k)))
      have HWD := Lib.hid (Nd.wide_got (X.get (11 + k)))
      generalize Nd.got (X.get (11 + k)) = nd at *
      generalize Nd.err (X.get (11 + k)) = ze at *
      go_upto_region 6 with (first
        | (refine wpList_alloc_any rfl 85 rfl _ zero_I ?_; intro w4 hb4 hs4 hw4)
        | (refine wpList_store_part rfl 85 (.tmp 5) (.tmp 19) rfl _ 0 (nic nd (.slice B nd.bl.length c3)) rfl rfl 85 zI hb4 size_N (by simp [nic, zI]) (nic_row _ _ _ _) ?_
           intro w5 hb5 hs5 hk5))
      have HG5 : Hid (Bw w5 w3.heap.size (nic nd (.slice B nd.bl.length c3)) 85) := hb5
      have hbw : Below w3.heap.size w3 w5 := hw4.trans (hk5.below2 (fun k hk => by omega))
      have HI5 := Lib.hid (HI3.out.below hbw)
      have HN5 := Lib.hid (HN3.out.below hbw)
      clear hb4 hs4 hw4 hb5 hs5 hk5 hbw HI3 HN3
      have HE : Each 97 #[.pointer (some ⟨w'.heap.size + 1, 0, none⟩)] p x.n B nd.bl (fun pre W => OI w' (w'.heap.size + 1) w'.heap.size (x.n - 35) (fun x => Vl.owns X.get x k + pre.count x) W ∧ NS .u32 W B nd.bl.length nd.bl) :=
        ⟨enters_of Tryz.func97 (by kernel_rfl) rfl, fun pre W hI => room_any (HT.out.below hI.1.bel) hN hN2, fun pre W hI => hI.2, fun pre W W' hI hb => ⟨hI.1.below hb, hI.2.below hb⟩,
          fun pre b W hI hb hlt _ => by
            have h1 := Vl.owns_le X.get b k
            have h2 : pre.count b ≤ pre.length := List.count_le_length
            have h3 := List.length_filter_le (fun b => decide (b < x.n - 35)) nd.bl
            have h4 := HFEW.out
            refine (owners1_any (w'.heap.size + 1) w'.heap.size (x.n - 35) _ (fun x => Vl.owns X.get x k + (pre ++ [b]).count x) b W hI.1 hb (by omega) (fun x _ => ?_)).mono ?_
            · rw [List.count_append, List.count_singleton]
              by_cases e : x = b
              · subst e; simp; omega
              · rw [if_neg e, if_neg (by simpa using fun h : b = x => e h.symm)]; omega
            · rintro e W2 ⟨rfl, h5, h6⟩
              exact ⟨rfl, h5, hI.2.off2 (fc_no32 hI.1.row) h6⟩⟩
      go_wp2_with (refine wpList_load_part rfl 85 (.tmp 5) rfl _ 0 rfl _ Tryz.underlying85 rfl (nic nd (.slice B nd.bl.length c3)) 85 _ HG5.out size_N (fun j u hu => by rw [Nat.zero_add]; exact hu) ?_)
      refine (each_any _ _ p x.n B nd c3 _ _ HE ⟨HI5.out.congr fun x _ => by simp, HN5.out⟩ hN hN2 (by have := HFEW.out; omega) HWD.out.b).mono ?_
      rintro e w6 ⟨rfl, h6, -⟩
      have HI6 : Hid (OI w' (w'.heap.size + 1) w'.heap.size (x.n - 35) (fun x => Vl.owns X.get x (k + 1)) w6) := h6.congr fun y hy => by
        rw [HNEW.out, List.count_filter (by simpa using hy)]
      clear h6 HE HI5 HN5 HG5
      go_wp2
      go_roundw
      case rel => exact ⟨k + 1, by omega, by go_num, HI6⟩
      case measure => simp [intOf]; omega
    · obtain rfl : k = 24 := by omega
      have k0 := HI.out.box.cell 0 _ rfl
      go_wp2
      go_ret
      exact ⟨_, rfl, HI.out.row, HI.out.bel⟩
end
end Go.Proofs.YtnhokkdieijkhaaGreatDoor

namespace Go.Proofs.YtnhokkdieijkhaaGreatDoor
open Go.RowKit

/-- A text: none if nothing is wrong, some if something is. -/
def WrongQ (bad : Bool) (w : World) (e : Ending) (w' : World) : Prop := ∃ s : ByteArray, e = .returned (.string s) ∧ (bad = false → s = ⟨#[]⟩) ∧ (bad = true → 0 < s.size) ∧ Below w.heap.size w w'
theorem Vl.badTo_hit {B : Nat → List UInt8} {n k : Nat} (hk : k < n) (h : Vl.badB B k = true) : Vl.badTo B n = true := (Vl.badTo_iff B n).2 ⟨k, hk, h⟩
theorem Vl.badTo_next {B : Nat → List UInt8} {k : Nat} (h : Vl.badTo B k = false) (h2 : Vl.badB B k = false) : Vl.badTo B (k + 1) = false := by simp [Vl.badTo, h, h2]
/-- The words of what is wrong with a block. -/
def wordB : ByteArray := ⟨#[100, 97, 116, 97, 32, 98, 108, 111, 99, 107, 32]⟩
theorem app_pos (a b : ByteArray) (h : 0 < b.size) : 0 < (a ++ b).size := by rw [ByteArray.size_append]; omega

section
variable {w : World} {p m : Nat} {x : Sl} {S : Nat → Prop} {X : TX}
set_option maxRecDepth 100000 in
set_option maxHeartbeats 2000000 in
theorem wrongBlock_any (h : Tq w p m x S X) (hN : 36 ≤ x.n) (hN2 : x.n ≤ 135) (hs : ∀ i, (X.get i).length ≤ 96) :
    Calls Tryz.prog 42 #[.pointer (some ⟨p, 0, none⟩)] w (WrongQ (Vl.badTo X.get (x.n - 35)) w) := by
  have HG := Lib.hid (get_ok h 9 (by omega))
  have HT := Lib.hid h
  have HSM := Lib.hid hs
  clear h hs
  go_enter Tryz.func42, Tryz.ntmps42
  go_wp2_with fail
  refine HG.out.mono ?_
  rintro e w1 ⟨A, n, c, rfl, hb, -, -, -, hw1, -⟩
  have HB1 := Lib.hid hb
  have HW1 := Lib.hid hw1
  clear hb hw1 HG
  go_wp2_with fail
  refine (owners_any (HT.out.below HW1.out) hN (by omega) HSM.out).mono ?_
  rintro e w2 ⟨g, rfl, hr, hw2⟩
  have HR2 := Lib.hid hr
  have HB2 := Lib.hid (HB1.out.below hw2)
  have HW2 := Lib.hid (HW1.out.trans (hw2.mono HW1.out.size))
  have HLN : Hid (n ≤ 96) := by show _ ≤ _; rw [← HB1.out.1]; exact HSM.out 9
  clear hr hw2 HB1 HW1
  go_wp2_with fail
  go_loopw [12] (fun i wr => ∃ k : Nat, k ≤ x.n - 35 ∧ i = .int .i64 k ∧ Hid (Below w2.heap.size w2 wr) ∧ Hid (Vl.badTo X.get k = false)) (fun i _ => x.n - 35 - (intOf i).toNat)
  case atStart => exact ⟨0, by omega, rfl, Below.refl _ _, rfl⟩
  case round =>
    obtain ⟨k, hk, rfl, HB, HO⟩ := hrel
    have HWr : Hid (Below w.heap.size w wr) := HW2.out.trans (HB.out.mono HW2.out.size)
    by_cases hlt : k < x.n - 35
    · have hcell : wr.cell? ⟨g, k, none⟩ = some (.int .i64 (Vl.owns X.get k 24 : Int)) := (HR2.out.below HB.out).cell k _ (fc_get hlt)
      have HBW := Lib.hid (HB2.out.below HB.out)
      have HHIT : Hid (Vl.badB X.get k = true → Vl.badTo X.get (x.n - 35) = true) := fun h => Vl.badTo_hit hlt h
      have HNEXT : Hid (Vl.badB X.get k = false → Vl.badTo X.get (k + 1) = false) := fun h => Vl.badTo_next HO.out h
      have HBAD : Hid (Vl.badB X.get k = (decide (1 < Vl.owns X.get k 24) || (decide (Vl.owns X.get k 24 = 1) && !Bt.has (X.get 9) k) || (decide (Vl.owns X.get k 24 = 0) && Bt.has (X.get 9) k) || (decide (Vl.owns X.get k 24 = 0) && decide (0 < (X.get (35 + k)).length)))) := rfl
      have HHAS := Lib.hid (fun W hb => bhas_any A n c (X.get 9) (k : Int) W hb (by omega) (by have := HLN.out; omega))
      have HGET := Lib.hid (fun W hb => get_ok (HT.out.below (w' := W) hb) (35 + k) (by omega))
      rw [Bt.hasI_nat] at HHAS
      generalize Vl.badB X.get k = bad at *
      generalize Vl.owns X.get k 24 = co at *
      have hk100 : k < 100 := by omega
      clear hk
      go_wp2_with fail
      refine (itoa_any k hk100 wr).mono ?_
      rintro e w3 ⟨s, rfl, hs, rfl⟩
      rcases Nat.lt_trichotomy co 1 with h0 | h0 | h0
      · obtain rfl : co = 0 := by omega
        have hd : decide ((1 : Int) < ((0 : Nat) : Int)) = false := by decide
        go_wp2_with fail
        refine (HHAS.out _ HBW.out).mono ?_
        rintro e w4 ⟨rfl, d, rfl⟩
        cases hh : Bt.has (X.get 9) k with
        | true =>
          have HE : Hid (bad = true) := by show _ = _; rw [HBAD.out]; simp [hh]
          clear hh
          go_wp2_with fail
          go_ret
          exact ⟨_, rfl, fun h => (by rw [HHIT.out HE.out] at h; cases h), fun _ => app_pos _ _ (by decide), below_drewN HWr.out d⟩
        | false =>
          go_wp2_with fail
          rw [show (35 : Int) + (k : Int) = ((35 + k : Nat) : Int) by omega]
          refine (HGET.out _ (below_drewN HWr.out d)).mono ?_
          rintro e w5 ⟨A5, n5, c5, rfl, hb5, -, -, -, hw5, -⟩
          have HL5 : Hid ((X.get (35 + k)).length = n5) := hb5.1
          have HB5 : Hid (Below w2.heap.size w2 w5) := (below_drewN HB.out d).trans (hw5.mono (by have := HB.out.size; exact this))
          have HW5 : Hid (Below w.heap.size w w5) := HW2.out.trans (HB5.out.mono HW2.out.size)
          clear hb5 hw5
          by_cases hn : 0 < n5
          · have HE : Hid (bad = true) := by show _ = _; rw [HBAD.out, HL5.out]; simp [hn]
            have hd5 : decide ((0 : Int) < (n5 : Int)) = true := by simp; omega
            clear hh
            go_wp2_with fail
            go_ret
            exact ⟨_, rfl, fun h => (by rw [HHIT.out HE.out] at h; cases h), fun _ => app_pos _ _ (by decide), HW5.out⟩
          · have HE : Hid (bad = false) := by show _ = _; rw [HBAD.out, HL5.out, hh]; simp [hn]
            have hd5 : decide ((0 : Int) < (n5 : Int)) = false := by simp; omega
            clear hh
            go_wp2_with fail
            go_roundw
            case rel => exact ⟨k + 1, by omega, by go_num, HB5, HNEXT.out HE.out⟩
            case measure => simp [intOf]; omega
      · subst h0
        have hd : decide ((1 : Int) < ((1 : Nat) : Int)) = false := by decide
        go_wp2_with fail
        refine (HHAS.out _ HBW.out).mono ?_
        rintro e w4 ⟨rfl, d, rfl⟩
        cases hh : Bt.has (X.get 9) k with
        | true =>
          have HE : Hid (bad = false) := by show _ = _; rw [HBAD.out]; simp [hh]
          clear hh
          go_wp2_with fail
          go_roundw
          case rel => exact ⟨k + 1, by omega, by go_num, below_drewN HB.out d, HNEXT.out HE.out⟩
          case measure => simp [intOf]; omega
        | false =>
          have HE : Hid (bad = true) := by show _ = _; rw [HBAD.out]; simp [hh]
          clear hh
          go_wp2_with fail
          go_ret
          exact ⟨_, rfl, fun h => (by rw [HHIT.out HE.out] at h; cases h), fun _ => app_pos _ _ (by decide), below_drewN HWr.out d⟩
      · have HE : Hid (bad = true) := by show _ = _; rw [HBAD.out]; simp [h0]
        have hd : decide ((1 : Int) < (co : Int)) = true := by simp; omega
        go_wp2_with fail
        go_ret
        exact ⟨_, rfl, fun h => (by rw [HHIT.out HE.out] at h; cases h), fun _ => app_pos _ _ (by decide), HWr.out⟩
    · obtain rfl : k = x.n - 35 := by omega
      go_wp2
      go_ret
      exact ⟨_, rfl, fun _ => rfl, fun h => (by rw [HO.out] at h; cases h), HWr.out⟩
end

/-- An error that is told is a number below 100. -/
def Low (z : Int) : Prop := 0 ≤ z ∧ z < 100
theorem low0 : Low 0 := ⟨by decide, by decide⟩
theorem low10 : Low 10 := ⟨by decide, by decide⟩
theorem low11 : Low 11 := ⟨by decide, by decide⟩
theorem low12 : Low 12 := ⟨by decide, by decide⟩
theorem low13 : Low 13 := ⟨by decide, by decide⟩
theorem rdN_low (n : Nat) (s : St) (h : Low s.2) : Low (rdN n s).1.2 := by
  unfold rdN
  split
  · exact h
  · split
    · first | exact low0 | exact low10 | exact low11 | exact low12 | exact low13
    · first | exact low0 | exact low10 | exact low11 | exact low12 | exact low13
theorem rds_low (n : Nat) : ∀ (k : Nat) (s : St), Low s.2 → Low (Nd.rds n k s).1.2
  | 0, _, h => h
  | k + 1, s, h => rdN_low n _ (rds_low n k s h)
theorem endOf_low (l : List UInt8) (e : Int) (h : Low e) : Low (endOf l e) := by
  unfold endOf
  split
  · first | exact low0 | exact low10 | exact low11 | exact low12 | exact low13
  · exact h
theorem Nd.err_low (l : List UInt8) : Low (Nd.err l) := by
  have hf : Low (Nd.fin l) := endOf_low _ _ (rds_low 4 _ _ (rdN_low 4 _ (rds_low 8 3 _ (rds_low 4 5 _ low0))))
  unfold Nd.err
  split
  · first | exact low0 | exact low10 | exact low11 | exact low12 | exact low13
  · split
    · first | exact low0 | exact low10 | exact low11 | exact low12 | exact low13
    · split
      · exact hf
      · split
        · first | exact low0 | exact low10 | exact low11 | exact low12 | exact low13
        · first | exact low0 | exact low10 | exact low11 | exact low12 | exact low13
theorem Vl.ldE_low (D : List UInt8 → Nat → Bool) (n : Nat) (B : Nat → List UInt8) (i : Nat) : Low (Vl.ldE D n B i) := by
  unfold Vl.ldE
  split
  · exact Nd.err_low _
  · split
    · first | exact low0 | exact low10 | exact low11 | exact low12 | exact low13
    · first | exact low0 | exact low10 | exact low11 | exact low12 | exact low13
theorem Vl.allE_low (D : List UInt8 → Nat → Bool) (n : Nat) (B : Nat → List UInt8) : ∀ k, Low (Vl.allE D n B k)
  | 0 => low0
  | k + 1 => by
    unfold Vl.allE
    split
    · exact Vl.allE_low D n B k
    · exact Vl.ldE_low D n B k
theorem Vl.chE_low (b : List UInt8) : Low (Vl.chE b) := by
  unfold Vl.chE
  split
  · first | exact low0 | exact low10 | exact low11 | exact low12 | exact low13
  · split
    · first | exact low0 | exact low10 | exact low11 | exact low12 | exact low13
    · first | exact low0 | exact low10 | exact low11 | exact low12 | exact low13
section
variable {w : World} {p m : Nat} {x : Sl} {S : Nat → Prop} {X : TX}
set_option maxRecDepth 100000 in
set_option maxHeartbeats 2000000 in
theorem wrong_any (h : Tq w p m x S X) (hN : 36 ≤ x.n) (hN2 : x.n ≤ 135) (hs : ∀ i, (X.get i).length ≤ 96) :
    Calls Tryz.prog 15 #[.pointer (some ⟨p, 0, none⟩)] w (WrongQ (Vl.wrongB Sl.dirB x.n X.get) w) := by
  have HT := Lib.hid h
  have HSM := Lib.hid hs
  have HI := Lib.hid (isVol_any h hN (by omega))
  have HA := Lib.hid (all_vol h hN (by omega) hs)
  have HAL := Lib.hid (Vl.allE_low Sl.dirB x.n X.get 24)
  have HCL := Lib.hid (Vl.chE_low (X.get 10))
  have HQ : Hid (Vl.wrongB Sl.dirB x.n X.get = (decide (Vl.allE Sl.dirB x.n X.get 24 ≠ 0) || decide (Vl.chE (X.get 10) ≠ 0) || decide (Bt.cnt (X.get 9) (x.n - 35) < Bt.cnt (X.get 9) (8 * (X.get 9).length)) || Vl.badTo X.get (x.n - 35))) := rfl
  clear h hs
  unfold AllQ at HA
  generalize Vl.allE Sl.dirB x.n X.get 24 = z at *
  generalize Vl.wrongB Sl.dirB x.n X.get = bad at *
  go_enter Tryz.func15, Tryz.ntmps15
  go_wp2_with fail
  refine HI.out.mono ?_
  rintro e w' ⟨rfl, rfl⟩
  go_wp2_with fail
  refine HA.out.mono ?_
  rintro e w1 ⟨A, c, l, rfl, -, -, -, hw1⟩
  have HW1 := Lib.hid hw1
  clear hw1 HA HI
  by_cases hz : z = 0
  rotate_left
  · have hd : (z != 0) = true := by simpa using hz
    have HE : Hid (bad = true) := by show _ = _; rw [HQ.out]; simp [hz]
    obtain ⟨zn, rfl⟩ := Int.eq_ofNat_of_zero_le HAL.out.1
    have hlt : zn < 100 := by have := HAL.out.2; omega
    clear hz
    go_wp2_with fail
    refine (error_any zn hlt w1).mono ?_
    rintro e w2 ⟨s, rfl, hs, rfl⟩
    go_wp2_with fail
    go_ret
    exact ⟨_, rfl, fun h => (by rw [HE.out] at h; cases h), fun _ => (by rw [ByteArray.size_append]; exact Nat.lt_of_lt_of_le (show 0 < (⟨#[97, 32, 115, 108, 111, 116, 58, 32]⟩ : ByteArray).size by decide) (Nat.le_add_right _ _)), HW1.out⟩
  subst hz
  go_wp2_with fail
  refine (change_vol (HT.out.below HW1.out) hN (by omega) (HSM.out 10)).mono ?_
  rintro e w2 ⟨rfl, hw2⟩
  have HW2 := Lib.hid (HW1.out.trans (hw2.mono HW1.out.size))
  clear hw2
  generalize Vl.chE (X.get 10) = z at *
  generalize Vl.chN (X.get 10) = zc at *
  by_cases hz : z = 0
  rotate_left
  · have hd : (z != 0) = true := by simpa using hz
    have HE : Hid (bad = true) := by show _ = _; rw [HQ.out]; simp [hz]
    obtain ⟨zn, rfl⟩ := Int.eq_ofNat_of_zero_le HCL.out.1
    have hlt : zn < 100 := by have := HCL.out.2; omega
    clear hz
    go_wp2_with fail
    refine (error_any zn hlt w2).mono ?_
    rintro e w3 ⟨s, rfl, hs, rfl⟩
    go_wp2_with fail
    go_ret
    exact ⟨_, rfl, fun h => (by rw [HE.out] at h; cases h), fun _ => (by rw [ByteArray.size_append]; exact Nat.lt_of_lt_of_le (show 0 < (⟨#[116, 104, 101, 32, 110, 117, 109, 98, 101, 114, 32, 111, 102, 32, 99, 104, 97, 110, 103, 101, 115, 58, 32]⟩ : ByteArray).size by decide) (Nat.le_add_right _ _)), HW2.out⟩
  subst hz
  go_wp2_with fail
  refine (get_ok (HT.out.below HW2.out) 9 (by omega)).mono ?_
  rintro e w3 ⟨A3, n3, c3, rfl, hb3, -, -, -, hw3, -⟩
  have HB3 := Lib.hid hb3
  have HLN : Hid (n3 ≤ 96) := by show _ ≤ _; rw [← hb3.1]; exact HSM.out 9
  have HW3 := Lib.hid (HW2.out.trans (hw3.mono HW2.out.size))
  clear hb3 hw3
  go_wp2_with fail
  refine (count_max A3 n3 c3 (X.get 9) _ w3 HB3.out (by have := HLN.out; omega) (by omega)).mono ?_
  rintro e w4 ⟨rfl, d, rfl⟩
  have HW4 := Lib.hid (below_drewN HW3.out d)
  go_wp2_with fail
  refine (get_ok (HT.out.below HW4.out) 9 (by omega)).mono ?_
  rintro e w5 ⟨A5, n5, c5, rfl, hb5, -, -, -, hw5, -⟩
  have HB5 := Lib.hid hb5
  have HLN5 : Hid (n5 ≤ 96) := by show _ ≤ _; rw [← hb5.1]; exact HSM.out 9
  have HW5 := Lib.hid (HW4.out.trans (hw5.mono HW4.out.size))
  clear hb5 hw5
  go_wp2_with fail
  refine (room_any (HT.out.below HW5.out) hN (by omega)).mono ?_
  rintro e w6 ⟨rfl, rfl⟩
  go_wp2_with fail
  refine (count_any A5 n5 c5 (X.get 9) _ w6 HB5.out (by omega) (by have := HLN5.out; omega)).mono ?_
  rintro e w7 ⟨rfl, d2, rfl⟩
  have HW7 := Lib.hid (below_drewN HW5.out d2)
  rw [show ((x.n - 35 : Nat) : Int).toNat = x.n - 35 by omega]
  by_cases hlt : Bt.cnt (X.get 9) (x.n - 35) < Bt.cnt (X.get 9) (8 * (X.get 9).length)
  · have HE : Hid (bad = true) := by show _ = _; rw [HQ.out]; simp [hlt]
    have hd : decide (Bt.cnt (X.get 9) (x.n - 35) < Bt.cnt (X.get 9) (8 * (X.get 9).length)) = true := by simpa using hlt
    clear hlt
    go_wp2_with fail
    go_ret
    exact ⟨_, rfl, fun h => (by rw [HE.out] at h; cases h), fun _ => by decide, HW7.out⟩
  · have HE : Hid (bad = Vl.badTo X.get (x.n - 35)) := by show _ = _; rw [HQ.out]; simp [hlt]
    have hd : decide (Bt.cnt (X.get 9) (x.n - 35) < Bt.cnt (X.get 9) (8 * (X.get 9).length)) = false := by simpa using hlt
    clear hlt
    go_wp2_with fail
    refine (wrongBlock_any (HT.out.below HW7.out) hN hN2 HSM.out).mono ?_
    rintro e w8 ⟨s, rfl, h1, h2, hw8⟩
    have H1 := Lib.hid h1
    have H2 := Lib.hid h2
    have HW8 := Lib.hid (HW7.out.trans (hw8.mono HW7.out.size))
    clear h1 h2 hw8
    go_wp2_with fail
    go_ret
    exact ⟨s, rfl, fun h => H1.out (HE.out.symm.trans h), fun h => H2.out (HE.out.symm.trans h), HW8.out⟩
set_option maxRecDepth 100000 in
set_option maxHeartbeats 1000000 in
theorem wrong_few (h : Tq w p m x S X) (hN : x.n < 36) : Calls Tryz.prog 15 #[.pointer (some ⟨p, 0, none⟩)] w (WrongQ true w) := by
  have HI := Lib.hid (isVol_few h hN)
  clear h
  go_enter Tryz.func15, Tryz.ntmps15
  go_wp2_with fail
  refine HI.out.mono ?_
  rintro e w' ⟨rfl, rfl⟩
  go_wp2
  go_ret
  exact ⟨_, rfl, fun h => (by cases h), fun _ => by decide, Below.refl _ _⟩
set_option maxRecDepth 100000 in
set_option maxHeartbeats 1000000 in
theorem wrong_nil (w : World) : Calls Tryz.prog 15 #[.pointer none] w (WrongQ true w) := by
  have HI := Lib.hid (isVol_nil w)
  go_enter Tryz.func15, Tryz.ntmps15
  go_wp2_with fail
  refine HI.out.mono ?_
  rintro e w' ⟨rfl, rfl⟩
  go_wp2
  go_ret
  exact ⟨_, rfl, fun h => (by cases h), fun _ => by decide, Below.refl _ _⟩
end
end Go.Proofs.YtnhokkdieijkhaaGreatDoor

namespace Go.Proofs.YtnhokkdieijkhaaGreatDoor
open Go.RowKit

theorem Vl.mayB_snoc {D : List UInt8 → Nat → Bool} {l : List Vl.Th} {k : Nat} (hk : k < l.length) : Vl.mayB D (l.take (k + 1)) = (Vl.mayB D (l.take k) && l[k].okB D && !decide (l[k].ino ∈ (l.take k).map Vl.Th.ino)) := by
  unfold Vl.mayB
  rw [List.take_succ_eq_append_getElem hk, List.all_append, List.map_append]
  simp only [List.all_cons, List.all_nil, Bool.and_true, List.map_cons, List.map_nil]
  have : decide (((l.take k).map Vl.Th.ino ++ [l[k].ino]).Nodup) = (decide ((l.take k).map Vl.Th.ino).Nodup && !decide (l[k].ino ∈ (l.take k).map Vl.Th.ino)) := by
    rw [Bool.eq_iff_iff]
    simp only [decide_eq_true_eq, Bool.and_eq_true, Bool.not_eq_true', decide_eq_false_iff_not, List.nodup_append]
    constructor
    · rintro ⟨h1, _, h3⟩
      exact ⟨h1, fun h => h3 _ h _ (by simp) rfl⟩
    · rintro ⟨h1, h2⟩
      refine ⟨h1, by simp, fun a ha b hb e => ?_⟩
      obtain rfl := List.mem_singleton.1 hb
      exact h2 (e ▸ ha)
  rw [this]
  generalize (l.take k).all (fun s => s.okB D) = a
  generalize decide ((l.take k).map Vl.Th.ino).Nodup = b
  generalize l[k].okB D = c
  generalize decide (l[k].ino ∈ (l.take k).map Vl.Th.ino) = d
  cases a <;> cases b <;> cases c <;> cases d <;> rfl
theorem Vl.mayB_take {D : List UInt8 → Nat → Bool} {l : List Vl.Th} (k : Nat) (h : Vl.mayB D l = true) : Vl.mayB D (l.take k) = true := by
  unfold Vl.mayB at *
  rw [Bool.and_eq_true, List.all_eq_true, decide_eq_true_eq] at *
  exact ⟨fun s hs => h.1 s (List.mem_of_mem_take hs), h.2.sublist ((List.take_sublist k l).map _)⟩
/-- Which numbers were seen. -/
def sb (l : List Nat) : List Value := (List.range 24).map fun i => Value.bool (decide (i ∈ l))
theorem sb_len (l : List Nat) : (sb l).length = 24 := by simp [sb]
theorem sb_get {l : List Nat} {i : Nat} (h : i < 24) : (sb l)[i]? = some (.bool (decide (i ∈ l))) := by simp [sb, h]
theorem sb_set {l : List Nat} {i : Nat} (h : i < 24) : (sb l).set i (.bool true) = sb (l ++ [i]) := by
  apply List.ext_getElem?
  intro j
  rw [List.getElem?_set]
  by_cases hj : j < 24
  · rw [sb_get hj, sb_get hj, sb_len]
    by_cases e : i = j
    · subst e
      simp [h]
    · rw [if_neg e]
      have e' : ¬ j = i := fun h => e h.symm
      simp [e']
  · rw [List.getElem?_eq_none (by rw [sb_len]; omega : (sb (l ++ [i])).length ≤ j), if_neg (by omega), List.getElem?_eq_none (by rw [sb_len]; omega)]
theorem zero_A : (Tryz.prog.info? 105).bind (·.zero) = some (.agg (sb []).toArray) := by kernel_rfl

set_option maxRecDepth 100000 in
set_option maxHeartbeats 2000000 in
theorem canBe_any (A : Option Addr) (n cp : Nat) (l : List Vl.Th) (w : World) (h : SS w A n l) (hf : ∀ s ∈ l, Fits s ∧ s.dt.length ≤ 1000) (hn : n ≤ 1000000) :
    Calls Tryz.prog 35 #[.slice A n cp] w fun e w' => e = .returned (.bool (Vl.mayB Sl.dirB l)) ∧ Below w.heap.size w w' := by
  have HX := Lib.hid h
  have HF := Lib.hid hf
  have HLN : Hid (l.length = n) := h.1
  clear h hf
  go_enter Tryz.func35, Tryz.ntmps35
  go_upto_region 2 with (refine wpList_alloc_any rfl 105 rfl _ zero_A ?_; intro w1 hb1 hs1 hw1)
  have HB1 : Hid (Bw w1 w.heap.size (sb (([] : List Vl.Th).map Vl.Th.ino)) 105) := hb1
  have HW1 := Lib.hid hw1
  clear hb1 hs1 hw1
  go_wp2_with fail
  go_loopw [8] (fun i wr => ∃ k : Nat, k ≤ n ∧ i = .int .i64 k ∧ Hid (Below w.heap.size w wr) ∧ Hid (Bw wr w.heap.size (sb ((l.take k).map Vl.Th.ino)) 105) ∧ Hid (Vl.mayB Sl.dirB (l.take k) = true)) (fun i _ => n - (intOf i).toNat)
  case atStart => exact ⟨0, by omega, rfl, HW1, HB1, rfl⟩
  case round =>
    clear HB1 HW1
    obtain ⟨k, hk, rfl, HW, HB, HM⟩ := hrel
    by_cases hlt : k < n
    · obtain ⟨b, o, y, hl, rfl, hc, hbs, -⟩ := (HX.out.below HW.out).at hlt
      have HSN := Lib.hid (Vl.mayB_snoc (D := Sl.dirB) hl)
      have HTK := Lib.hid (fun h => Vl.mayB_take (D := Sl.dirB) (l := l) (k + 1) h)
      have hfk := HF.out _ (List.getElem_mem hl)
      have HTM : Hid ((l.take (k + 1)).map Vl.Th.ino = (l.take k).map Vl.Th.ino ++ [l[k].ino]) := by show _ = _; rw [List.take_succ_eq_append_getElem hl, List.map_append]; rfl
      generalize l[k] = s at *
      have HFT := Lib.hid hfk.1
      have HDL := Lib.hid hfk.2
      have HBS := Lib.hid hbs
      have hyn : y.n ≤ 1000 := by rw [← hbs.1]; exact hfk.2
      have q0 : wr.cell? ⟨b, o + k * 9, none⟩ = some (.int .u32 (s.ino : Int)) := hc 0 _ rfl
      have q1 := hc 1 _ rfl
      have q2 := hc 2 _ rfl
      have q3 := hc 3 _ rfl
      have q4 := hc 4 _ rfl
      have q5 := hc 5 _ rfl
      have q6 := hc 6 _ rfl
      have q7 := hc 7 _ rfl
      have q8 := hc 8 _ rfl
      clear hc hbs hfk
      go_upto_region 5 with (first
        | (refine wpList_alloc_any rfl 32 rfl _ zero_Sl ?_; intro w2 hb2 hs2 hw2)
        | (refine wpList_store_part rfl 32 (.tmp 5) (.tmp 11) rfl _ 0 (sc s (.slice y.a y.n y.c)) rfl rfl 32 (sc Sl.zero (.slice none 0 0)) hb2 size_Sl (by simp [sc]) (sc_row _ _ _ _) ?_
           intro w3 hb3 hs3 hk3))
      have HV3 : Hid (Bw w3 wr.heap.size (sc s (.slice y.a y.n y.c)) 32) := hb3
      have hbw : Below wr.heap.size wr w3 := hw2.trans (hk3.below2 (fun k hk => by omega))
      have HW3 := Lib.hid (HW.out.trans (hbw.mono HW.out.size))
      have HB3 := Lib.hid (HB.out.below hbw)
      have HS3 := Lib.hid (HBS.out.below hbw)
      clear hb2 hs2 hw2 hb3 hs3 hk3 hbw q0 q1 q2 q3 q4 q5 q6 q7 q8
      go_wp2_with (refine wpList_load_part rfl 32 (.tmp 5) rfl _ 0 rfl _ Tryz.underlying32 rfl (sc s (.slice y.a y.n y.c)) 32 _ HV3.out size_Sl (fun j u hu => by rw [Nat.zero_add]; exact hu) ?_)
      refine (checkS_any s y.a y.n y.c _ HFT.out HS3.out hyn).mono ?_
      rintro e w4 ⟨rfl, hw4⟩
      have HV4 := Lib.hid (HV3.out.below hw4)
      have HB4 := Lib.hid (HB3.out.below hw4)
      have HW4 := Lib.hid (HW3.out.trans (hw4.mono HW3.out.size))
      clear hw4 HV3 HB3 HW3 HS3
      cases hok : Sl.okS s with
      | false =>
        have HC : Hid (Sl.chkS s = 1) := if_neg (by rw [hok]; simp)
        have HE : Hid (Vl.mayB Sl.dirB l = false) := by
          show _ = _
          cases hm : Vl.mayB Sl.dirB l with
          | false => rfl
          | true =>
            have := HTK.out hm
            rw [HSN.out, show Vl.Th.okB Sl.dirB s = false from hok] at this
            simp at this
        rw [HC.out]
        clear hok
        go_wp2_with fail
        go_ret
        rw [HE.out]
        exact ⟨rfl, HW4.out⟩
      | true =>
        have HC : Hid (Sl.chkS s = 0) := if_pos hok
        have hi24 : s.ino < 24 := by have := (Vl.okB_facts hok).1; omega
        have k0 := HV4.out.cell 0 _ rfl
        have kb : w4.cell? ⟨w.heap.size, s.ino, none⟩ = some (.bool (decide (s.ino ∈ (l.take k).map Vl.Th.ino))) := HB4.out.cell _ _ (sb_get hi24)
        have HIN : Hid (s.ino < 24) := hi24
        rw [show Vl.Th.okB Sl.dirB s = true from hok, HM.out, Bool.true_and, Bool.true_and] at HSN
        rw [HC.out]
        clear hok
        cases hsn : decide (s.ino ∈ (l.take k).map Vl.Th.ino) with
        | true =>
          rw [hsn] at kb HSN
          have HE : Hid (Vl.mayB Sl.dirB l = false) := by
            show _ = _
            cases hm : Vl.mayB Sl.dirB l with
            | false => rfl
            | true =>
              have := HTK.out hm
              rw [HSN.out] at this
              simp at this
          clear hsn
          go_wp2_with fail
          go_ret
          rw [HE.out]
          exact ⟨rfl, HW4.out⟩
        | false =>
          rw [hsn] at kb HSN
          have fb := HB4.out.froz s.ino
          clear hsn
          go_wp2_with fail
          go_roundw
          case rel =>
            refine ⟨k + 1, by omega, by go_num, HW4.out.setCell (p := ⟨w.heap.size, s.ino, none⟩) (Nat.le_refl _) _, ?_, HSN.out⟩
            show Bw _ _ _ _
            rw [HTM.out, ← sb_set HIN.out]
            exact HB4.out.set s.ino (.bool true)
          case measure => simp [intOf]; omega
    · obtain rfl : k = n := by omega
      have HE : Hid (Vl.mayB Sl.dirB l = true) := by
        have := HM.out
        rw [← HLN.out, List.take_length] at this
        exact this
      go_wp2
      go_ret
      rw [HE.out]
      exact ⟨rfl, HW.out⟩
end Go.Proofs.YtnhokkdieijkhaaGreatDoor

namespace Go.Proofs.YtnhokkdieijkhaaGreatDoor
open Go.RowKit

/-- Where a transaction lies, told closer. -/
theorem Tq.tight {w : World} {p m : Nat} {x : Sl} {S : Nat → Prop} {X : TX} (h : Tq w p m x S X) : Tq w p m x (fun k => S k ∧ k < w.heap.size) X := by
  have hb : ∀ (y : Sl) (l : List UInt8), BC w S y l → BC w (fun k => S k ∧ k < w.heap.size) y l := fun y l hc => ⟨hc.bs, hc.few, hc.cap, fun hn ad e => ⟨hc.own hn ad e, hc.bs.lt_block hn ad e⟩⟩
  obtain ⟨h1, h2, g, rl, h3, h4, h5, h6, h7⟩ := h.rows
  exact ⟨h.cells, ⟨h1, h2, g, rl, h3, ⟨h4, (Array.getElem?_eq_some_iff.1 h6).1⟩, h5, h6, fun i hi => hb _ _ (h7 i hi)⟩, h.puts.imp rfl hb, ⟨h.sp, h.plt⟩, ⟨h.sm, h.mlt⟩⟩
/-- Who is told to be of S lies outside of what changes. -/
theorem Tq.fr {w w' : World} {p m : Nat} {x : Sl} {S Q : Nat → Prop} {X : TX} (h : Tq w p m x S X) (hf : Fr Q w w') (hQ : ∀ k, Q k → ¬ S k) : Tq w' p m x S X :=
  h.keep fun k hs hk => hf.block k ⟨hk, fun hq => hQ k hq hs⟩
theorem Vl.giv_snoc (T : List UInt8) (l : List Nat) (b : Nat) : Vl.giv T (l ++ [b]) = Bt.wit (Vl.giv T l) b false := by simp [Vl.giv]
theorem Vl.clr_snoc (B : Nat → List UInt8) (l : List Nat) (b : Nat) : Vl.clr B (l ++ [b]) = Vl.upd (Vl.clr B l) (35 + b) [] := by simp [Vl.clr]
theorem Vl.giv_len : ∀ (l : List Nat) (T : List UInt8), (∀ b ∈ l, b < 768) → T.length ≤ 96 → (Vl.giv T l).length ≤ 96
  | [], _, _, h => h
  | b :: r, T, hb, h => Vl.giv_len r (Bt.wit T b false) (fun c hc => hb c (List.mem_cons_of_mem _ hc)) (by
      have := Bt.wit_length T b false
      have := hb b List.mem_cons_self
      omega)
theorem TX.put_get (X : TX) (i : Nat) (b : List UInt8) : (X.put i b).get = Vl.upd X.get i b := by
  funext j
  rw [TX.get_put]
  rfl
theorem Tq.lens {w : World} {p m : Nat} {x : Sl} {S : Nat → Prop} {X : TX} (h : Tq w p m x S X) : X.l.length = x.n := h.len

/-- While blocks are given back: three boxes from block q on, the transaction lies elsewhere. -/
structure RLI (w : World) (q p m : Nat) (x : Sl) (S : Nat → Prop) (X : TX) (T : List UInt8) (nd : Nd) (v : Value) (pre : List Nat) (W : World) : Prop where
  ch : Ch (· = m) w W
  bt : Bw W q [.pointer (some ⟨p, 0, none⟩)] 24
  bk : ∃ A n c, Bw W (q + 1) [.slice A n c] 30 ∧ BS W A n (Vl.giv T pre)
  bn : Bw W (q + 2) (nic nd v) 85
  tq : ∃ Y, Tq W p m x (fun k => S k ∧ k ≠ q + 1) Y ∧ Y.l = X.l ∧ Y.get = Vl.clr X.get pre
  lq : w.heap.size ≤ q
theorem Ch.step {w w1 w2 : World} {m : Nat} (h : Ch (· = m) w w1) (hb : Below w1.heap.size w1 w2) : Ch (· = m) w w2 := ⟨h.1.trans (Fr.of_below hb (S := fun _ => False)) (fun _ h => h.elim), h.2⟩
theorem Bw.ch {w w' : World} {Q : Nat → Prop} {g : Nat} {cs : List Value} {t : TypeId} (h : Bw w g cs t) (hc : Ch Q w w') (ht : t ≠ 62) : Bw w' g cs t :=
  (hc.1.block g ⟨h.lt, fun hq => (hc.2 g hq).no_row _ _ ht h⟩).trans h
theorem NS.ch {T : IntKind} {w w' : World} {Q : Nat → Prop} {A : Option Addr} {n : Nat} {xs : List Nat} (h : NS T w A n xs) (hc : Ch Q w w') : NS T w' A n xs :=
  ⟨h.1, fun hn => by
    obtain ⟨b, o, e, hcell⟩ := h.2 hn
    refine ⟨b, o, e, fun j hj => ?_⟩
    rw [← hcell j hj]
    exact World.cell?_of_block (hc.1.block b ⟨World.block_lt_of_cell? w _ (hcell j hj), fun hq => (hc.2 b hq).no_int _ _ _ (hcell j hj)⟩)⟩
section
variable {w : World} {q p m : Nat} {x : Sl} {S : Nat → Prop} {X : TX} {T : List UInt8} {nd : Nd} {v : Value} {pre : List Nat} {W W' : World}
theorem RLI.below (h : RLI w q p m x S X T nd v pre W) (hb : Below W.heap.size W W') : RLI w q p m x S X T nd v pre W' := by
  obtain ⟨A, n, c, h1, h2⟩ := h.bk
  have h3 := h.bn
  obtain ⟨Y, h4, h5, h6⟩ := h.tq
  exact ⟨h.ch.step hb, h.bt.below hb, ⟨A, n, c, h1.below hb, h2.below hb⟩, h3.below hb, ⟨Y, h4.below hb, h5, h6⟩, h.lq⟩
/-- The box of the bits is written. -/
theorem RLI.store (h : RLI w q p m x S X T nd v pre W) (hb : Below W.heap.size W W') {A : Option Addr} {n c : Nat} (hx : BS W' A n (Vl.giv T pre)) : RLI w q p m x S X T nd v pre (W'.setCell ⟨q + 1, 0, none⟩ (.slice A n c)) := by
  have h' := h.below hb
  obtain ⟨A1, n1, c1, h1, _⟩ := h'.bk
  have h3 := h'.bn
  obtain ⟨Y, h4, h5, h6⟩ := h'.tq
  have hlq := h.lq
  have hfr : Fr (· = q + 1) W' (W'.setCell ⟨q + 1, 0, none⟩ (.slice A n c)) := (Fr.refl (· = q + 1) W').setCell (p := ⟨q + 1, 0, none⟩) (fun h' => h'.2 rfl) _
  refine ⟨⟨h'.ch.1.trans hfr (fun k hk => .inr (by rw [hk]; omega)), h.ch.2⟩, h'.bt.off (by show q ≠ q + 1; omega) _, ⟨A, n, c, h1.set 0 _, ?_⟩, h3.off (by show q + 2 ≠ q + 1; omega) _, ⟨Y, h4.fr hfr (fun k hk h => h.2 hk), h5, h6⟩, hlq⟩
  refine hx.off (q := q + 1) (fun o z e => ?_) (fun k _ hk => Below.heap_setCell _ _ _ _ hk)
  rw [cell_of_row _ _ _ _ _ _ h1] at e
  match o with
  | 0 => simp at e
  | n + 1 => simp at e
theorem RLI.start (h : Tq w p m x S X) (nd : Nd) (v : Value) (A : Option Addr) (n c : Nat) (hx : BS w A n T) (hq : q = w.heap.size) :
    RLI w q p m x S X T nd v [] (((w.alloc (.cells #[.pointer (some ⟨p, 0, none⟩)] 24)).alloc (.cells #[.slice A n c] 30)).alloc (.cells (nic nd v).toArray 85)) := by
  subst hq
  have e1 := heap_alloc_new w (.cells #[.pointer (some ⟨p, 0, none⟩)] 24)
  have e2 := heap_alloc_new (w.alloc (.cells #[.pointer (some ⟨p, 0, none⟩)] 24)) (.cells #[.slice A n c] 30)
  have e3 := heap_alloc_new ((w.alloc (.cells #[.pointer (some ⟨p, 0, none⟩)] 24)).alloc (.cells #[.slice A n c] 30)) (.cells (nic nd v).toArray 85)
  simp only [World.size_alloc] at e2 e3
  have hb : Below w.heap.size w (((w.alloc (.cells #[.pointer (some ⟨p, 0, none⟩)] 24)).alloc (.cells #[.slice A n c] 30)).alloc (.cells (nic nd v).toArray 85)) := (((Below.refl _ _).alloc (Nat.le_refl _) _).alloc (by simp) _).alloc (by simp; omega) _
  refine ⟨⟨Fr.of_below hb, fun k hk => by rw [hk]; exact h.puts.dull⟩, ?_, ⟨A, n, c, ?_, hx.below hb⟩, e3, ⟨X, (h.tight.below hb).mono fun k hk => ⟨hk.1, by have := hk.2; omega⟩, rfl, rfl⟩, Nat.le_refl _⟩
  · show _ = _
    rw [Below.heap_alloc _ _ _ (by simp; omega), Below.heap_alloc _ _ _ (by simp)]
    exact e1
  · show _ = _
    rw [Below.heap_alloc _ _ _ (by simp)]
    exact e2
set_option maxRecDepth 100000 in
set_option maxHeartbeats 1000000 in
theorem release1_any (hI : RLI w q p m x S X T nd v pre W) (hS : ∀ k, w.heap.size ≤ k → S k) (hN2 : x.n ≤ 803) (b : Nat) (hb : b < x.n - 35) (hT : T.length ≤ 96) (hpre : ∀ c ∈ pre, c < 768) :
    Calls Tryz.prog 88 #[.int .i64 (b : Int), .pointer (some ⟨q, 0, none⟩), .pointer (some ⟨q + 1, 0, none⟩)] W fun e w' => e = .returned (.tuple #[]) ∧ RLI w q p m x S X T nd v (pre ++ [b]) w' := by
  obtain ⟨A, n, c, hk1, hk2⟩ := hI.bk
  obtain ⟨Y, ht1, ht2, ht3⟩ := hI.tq
  have hbn := hI.bn
  have hlq := hI.lq
  have hqW : q + 1 < W.heap.size := hk1.lt
  have hwW := hI.ch.size
  have k0 : W.cell? ⟨q, 0, none⟩ = some (.pointer (some ⟨p, 0, none⟩)) := hI.bt.cell 0 _ rfl
  have HP := Lib.hid (putX_any ht1 (fun k hk => ⟨hS k (by omega), by omega⟩) (35 + b) (by omega) none 0 0 [] BS.nil (by simp))
  have HI := Lib.hid hI
  have HK1 := Lib.hid hk1
  have HK2 := Lib.hid hk2
  have HBN := Lib.hid hbn
  have HY : Hid (Y.l = X.l ∧ Y.get = Vl.clr X.get pre) := ⟨ht2, ht3⟩
  have HLN : Hid ((Vl.giv T pre).length ≤ 96) := Vl.giv_len pre T hpre hT
  have HSN := Lib.hid (Vl.giv_snoc T pre b)
  clear hI hk1 hk2 ht1 ht2 ht3 hbn
  go_enter Tryz.func88, Tryz.ntmps88
  go_wp2_with fail
  rw [show (35 : Int) + (b : Int) = ((35 + b : Nat) : Int) by omega]
  refine HP.out.mono ?_
  rintro e w1 ⟨rfl, ht1, hc1⟩
  have HT1 := Lib.hid ht1
  have HC1 := Lib.hid hc1
  have HB1 := Lib.hid (HK1.out.ch hc1 (by decide))
  have HS1 := Lib.hid (HK2.out.ch hc1)
  have k1 : w1.cell? ⟨q + 1, 0, none⟩ = some (.slice A n c) := HB1.out.cell 0 _ rfl
  clear ht1 hc1 HP k0
  go_wp2_with fail
  refine (with_any A n c _ (b : Int) false w1 HS1.out (by omega) (by rw [← HS1.out.1]; exact Nat.le_trans HLN.out (by omega))).mono ?_
  rintro e w2 ⟨A2, n2, c2, rfl, hb2, hw2⟩
  rw [Bt.witI_nat] at hb2
  have HB2 := Lib.hid (HB1.out.below hw2)
  have HS2 := Lib.hid hb2
  have HT2 := Lib.hid (HT1.out.below hw2)
  have HC2 := Lib.hid (HC1.out.step hw2)
  have f2 := HB2.out.froz 0
  have k2 := HB2.out.cell 0 _ rfl
  clear hb2 hw2 HB1 HS1 HT1 HC1 k1
  go_wp2
  refine bodyPost_end (results_none rfl _ _ _) rfl ⟨rfl, ?_⟩
  have hne : ∀ k, k ≠ q + 1 → (w2.setCell ⟨q + 1, 0, none⟩ (.slice A2 n2 c2)).heap[k]? = w2.heap[k]? := fun k hk => Below.heap_setCell w2 ⟨q + 1, 0, none⟩ _ k hk
  have hfr : Fr (· = q + 1) w2 (w2.setCell ⟨q + 1, 0, none⟩ (.slice A2 n2 c2)) := (Fr.refl (· = q + 1) w2).setCell (p := ⟨q + 1, 0, none⟩) (fun h' => h'.2 rfl) _
  refine ⟨⟨(HI.out.ch.1.trans (HC2.out.1) (fun k hk => .inl hk)).trans hfr (fun k hk => .inr (by rw [hk]; omega)), HI.out.ch.2⟩, ?_, ⟨A2, n2, c2, HB2.out.set 0 _, ?_⟩, ?_, ⟨Y.put (35 + b) [], ?_, HY.out.1, ?_⟩, hlq⟩
  · exact ((HI.out.bt.ch HC2.out (by decide)).off (by show q ≠ q + 1; omega) _)
  · rw [HSN.out]
    refine HS2.out.off (q := q + 1) (fun o z e => ?_) (fun k _ hk => hne k hk)
    rw [cell_of_row _ _ _ _ _ _ HB2.out] at e
    match o with
    | 0 => simp at e
    | n + 1 => simp at e
  · exact ((HBN.out.ch HC2.out (by decide)).off (by show q + 2 ≠ q + 1; omega) _)
  · exact HT2.out.fr hfr (fun k hk h => h.2 hk)
  · rw [TX.put_get, HY.out.2, Vl.clr_snoc]
/-- What release hands back. -/
def RelQ (w : World) (p m : Nat) (x : Sl) (S : Nat → Prop) (X : TX) (T : List UInt8) (bl : List Nat) (e : Ending) (w' : World) : Prop :=
  ∃ A n c Y, e = .returned (.slice A n c) ∧ BS w' A n (Vl.giv T bl) ∧ Tq w' p m x S Y ∧ Y.l = X.l ∧ Y.get = Vl.clr X.get bl ∧ Ch (· = m) w w'
set_option maxRecDepth 100000 in
set_option maxHeartbeats 2000000 in
theorem release_any (h : Tq w p m x S X) (hS : ∀ k, w.heap.size ≤ k → S k) (hN : 36 ≤ x.n) (hN2 : x.n ≤ 803) (nd : Nd) (hw : nd.Wide) (hl : nd.bl.length ≤ 8) (hb : ∀ b ∈ nd.bl, b < x.n - 35) (A : Option Addr) (cp : Nat) (hA : NS .u32 w A nd.bl.length nd.bl)
    (AT : Option Addr) (nT cT : Nat) (hT : BS w AT nT T) (hTl : T.length ≤ 96) (htr : Bt.Trimmed T) :
    Calls Tryz.prog 66 #[.pointer (some ⟨p, 0, none⟩), .slice AT nT cT, .agg #[.int .u32 (nd.kind : Int), .int .u32 (nd.gen : Int), .int .u32 (nd.links : Int), .int .u32 (nd.mode : Int), .int .u32 (nd.size : Int), .int .u64 (nd.change : Int), .int .u64 (nd.cookie : Int), .int .u64 (nd.verf : Int), .slice A nd.bl.length cp]] w
      (RelQ w p m x S X T nd.bl) := by
  have HWN : Hid (x.n ≤ 803) := hN2
  have HS := Lib.hid hS
  have HBL := Lib.hid hb
  have HTL := Lib.hid hTl
  have HTR : Hid (Bt.witI T (-1) false = T) := by show _ = _; rw [Bt.witI_neg _ _ (by omega)]; exact Bt.trim_of htr
  have HALL : Hid (nd.bl.filter (fun b => decide (b < x.n - 35)) = nd.bl) := List.filter_eq_self.2 fun b hb' => by simpa using hb b hb'
  have hI0 := RLI.start (q := w.heap.size) h nd (.slice A nd.bl.length cp) AT nT cT hT rfl
  have HI0 := Lib.hid hI0
  have HA := Lib.hid hA
  have hE : Each 88 #[.pointer (some ⟨w.heap.size, 0, none⟩), .pointer (some ⟨w.heap.size + 1, 0, none⟩)] p x.n A nd.bl (RLI w w.heap.size p m x S X T nd (.slice A nd.bl.length cp)) :=
    ⟨enters_of Tryz.func88 (by kernel_rfl) rfl, fun pre W hI => by obtain ⟨Y, h1, _, _⟩ := hI.tq; exact room_any h1 hN hN2, fun pre W hI => hA.ch hI.ch, fun pre W W' hI hb => hI.below hb,
      fun pre b W hI hb _ hr => release1_any hI hS hN2 b hb hTl fun c hc => by
        obtain ⟨r, hr⟩ := hr
        have : c ∈ nd.bl.filter (fun b => decide (b < x.n - 35)) := by rw [hr]; exact List.mem_append_left _ hc
        have := (List.mem_filter.1 this).2
        simp at this
        omega⟩
  have HE := Lib.hid hE
  have HWD := Lib.hid hw
  have HT0 := Lib.hid hT
  have hnT : nT ≤ 96 := by rw [← hT.1]; exact hTl
  have HL8 := Lib.hid hl
  clear h hS hb hTl htr hI0 hA hE hw hT hl
  unfold nic at *
  go_enter Tryz.func66, Tryz.ntmps66
  go_upto_region 1 with fail
  generalize (((w.alloc (.cells #[.pointer (some ⟨p, 0, none⟩)] 24)).alloc (.cells #[.slice AT nT cT] 30)).alloc (.cells #[.int .u32 (nd.kind : Int), .int .u32 (nd.gen : Int), .int .u32 (nd.links : Int), .int .u32 (nd.mode : Int), .int .u32 (nd.size : Int), .int .u64 (nd.change : Int), .int .u64 (nd.cookie : Int), .int .u64 (nd.verf : Int), .slice A nd.bl.length cp] 85)) = W1 at *
  have k8 : W1.cell? ⟨w.heap.size + 1 + 1, 8, none⟩ = some (.slice A nd.bl.length cp) := HI0.out.bn.cell 8 _ rfl
  have HEND : Hid (∀ W, RLI w w.heap.size p m x S X T nd (.slice A nd.bl.length cp) nd.bl W → ∀ A1 n1 c1, W.cell? ⟨w.heap.size + 1, 0, none⟩ = some (.slice A1 n1 c1) → RelQ w p m x S X T nd.bl (.returned (.slice A1 n1 c1)) W) := by
    show ∀ W, _
    intro W hI A1 n1 c1 hc
    obtain ⟨A2, n2, c2, h1, h2⟩ := hI.bk
    obtain ⟨Y, h4, h5, h6⟩ := hI.tq
    have := h1.cell 0 _ rfl
    rw [hc] at this
    injection this with this
    injection this with e1 e2 e3
    subst e1 e2 e3
    exact ⟨A1, n1, c1, Y, rfl, h2, h4.mono fun k hk => hk.1, h5, h6, hI.ch⟩
  have HC : Hid (∀ W, RLI w w.heap.size p m x S X T nd (.slice A nd.bl.length cp) [] W → Calls Tryz.prog 80 #[.pointer (some ⟨p, 0, none⟩), .agg (nic nd (.slice A nd.bl.length cp)).toArray, fnV 88 #[.pointer (some ⟨w.heap.size, 0, none⟩), .pointer (some ⟨w.heap.size + 1, 0, none⟩)]] W fun e w' => (∃ z, e = .returned (.bool z)) ∧ RLI w w.heap.size p m x S X T nd (.slice A nd.bl.length cp) nd.bl w') := by
    show ∀ W, _
    intro W hW
    refine (each_any _ _ p x.n A nd cp _ W HE.out hW hN hN2 (by have := HL8.out; omega) HWD.out.b).mono ?_
    rintro e w' ⟨rfl, h⟩
    rw [HALL.out] at h
    exact ⟨⟨_, rfl⟩, h⟩
  unfold fnV at HC
  clear HE HALL HA HWD HBL
  by_cases hn0 : nd.bl.length = 0
  · have hd : decide (0 < nd.bl.length) = false := by simpa using hn0
    clear hn0
    generalize nd.bl.length = ln at *
    have k0 : W1.cell? ⟨w.heap.size, 0, none⟩ = some (.pointer (some ⟨p, 0, none⟩)) := HI0.out.bt.cell 0 _ rfl
    go_wp2_with (refine wpList_load_part rfl 85 (.tmp 5) rfl _ 0 rfl _ Tryz.underlying85 rfl (nic nd (.slice A ln cp)) 85 _ HI0.out.bn size_N (fun j u hu => by rw [Nat.zero_add]; exact hu) ?_)
    refine (HC.out _ HI0.out).mono ?_
    rintro e w2 ⟨⟨z, rfl⟩, hI2⟩
    obtain ⟨A2, n2, c2, h1, _⟩ := hI2.bk
    have k2 := h1.cell 0 _ rfl
    have HI2 := Lib.hid hI2
    have HK2 := Lib.hid k2
    clear hI2 h1
    go_wp2
    go_ret
    exact HEND.out _ HI2.out _ _ _ HK2.out
  · have hd : decide (0 < nd.bl.length) = true := by simp; omega
    clear hn0
    generalize nd.bl.length = ln at *
    obtain ⟨A3, n3, c3, h3, hx3⟩ := HI0.out.bk
    have k3 : W1.cell? ⟨w.heap.size + 1, 0, none⟩ = some (.slice A3 n3 c3) := h3.cell 0 _ rfl
    have HX3 : Hid (BS W1 A3 n3 T) := hx3
    have f3 : W1.frozen? ⟨w.heap.size + 1, 0, none⟩ = false := h3.froz 0
    clear h3 hx3
    go_wp2_with fail
    refine (with_any A3 n3 c3 T (-1) false W1 HX3.out (by omega) (by rw [← HX3.out.1]; exact Nat.le_trans HTL.out (by omega))).mono ?_
    rintro e w2 ⟨A2, n2, c2, rfl, hb2, hw2⟩
    rw [HTR.out] at hb2
    have HI3 : Hid (RLI w w.heap.size p m x S X T nd (.slice A ln cp) [] (w2.setCell ⟨w.heap.size + 1, 0, none⟩ (.slice A2 n2 c2))) := HI0.out.store hw2 hb2
    have HI2 := Lib.hid (HI0.out.below hw2)
    obtain ⟨A4, n4, c4, h4, _⟩ := HI2.out.bk
    have f4 : w2.frozen? ⟨w.heap.size + 1, 0, none⟩ = false := h4.froz 0
    have k4 : w2.cell? ⟨w.heap.size + 1, 0, none⟩ = some (.slice A4 n4 c4) := h4.cell 0 _ rfl
    have k0 : w2.cell? ⟨w.heap.size, 0, none⟩ = some (.pointer (some ⟨p, 0, none⟩)) := HI2.out.bt.cell 0 _ rfl
    clear hb2 hw2 h4 HX3 HI0
    go_wp2_with (refine wpList_load_part rfl 85 (.tmp 5) rfl _ 0 rfl _ Tryz.underlying85 rfl (nic nd (.slice A ln cp)) 85 _ HI3.out.bn size_N (fun j u hu => by rw [Nat.zero_add]; exact hu) ?_)
    refine (HC.out _ HI3.out).mono ?_
    rintro e w5 ⟨⟨z, rfl⟩, hI5⟩
    obtain ⟨A5, n5, c5, h5, _⟩ := hI5.bk
    have k5 : w5.cell? ⟨w.heap.size + 1, 0, none⟩ = some (.slice A5 n5 c5) := h5.cell 0 _ rfl
    have HI5 := Lib.hid hI5
    have HK5 := Lib.hid k5
    clear hI5 h5
    go_wp2
    go_ret
    exact HEND.out _ HI5.out _ _ _ HK5.out
end
end Go.Proofs.YtnhokkdieijkhaaGreatDoor
