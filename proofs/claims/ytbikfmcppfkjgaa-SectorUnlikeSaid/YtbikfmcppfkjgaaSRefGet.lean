/-
  Contract of the document's Get (layer 4).
-/
import Derived.Test.YtbikfmcppfkjgaaSRef
namespace Go.Proofs.Ytbikfmcppfkjgaa
open Go.RowKit

set_option maxRecDepth 100000 in
set_option maxHeartbeats 1000000 in
theorem refNum (l : List UInt8) (w : World) (hl : l.length ≤ 8) :
    Calls Try.prog 25 #[.string (txt l)] w fun e w' => e = .returned (.int .u64 (num l : Int)) ∧ w = w' := by
  have hsz := txt_size l
  go_enter Try.func25, Try.ntmps25
  go_wp2
  go_loop [3, 4] (fun x i => ∃ k : Nat, k ≤ l.length ∧ i = .int .i64 k ∧ x = .int .u64 (num (l.take k) : Int)) (fun _ i => l.length - (intOf i).toNat)
  case atStart => exact ⟨0, by omega, rfl, rfl⟩
  case round =>
    obtain ⟨k, hk, rfl, rfl⟩ := hrel
    by_cases hlt : k < l.length
    · have hd : decide (k < l.length) = true := by simp; omega
      have hks : k < (txt l).size := by rw [hsz]; exact hlt
      have hm : num (l.take k) < 72057594037927936 := by
        have h1 := num_lt (l.take k)
        have h2 : 256 ^ (l.take k).length ≤ 256 ^ 7 := Nat.pow_le_pow_right (by omega) (by rw [List.length_take]; omega)
        omega
      have HE : Hid (num (l.take (k + 1)) = num (l.take k) * 256 + (txt l)[k].toNat) := by
        show _ = _
        rw [List.take_succ_eq_append_getElem hlt, num_snoc, ← txt_get l k hks hlt]
      have hb := (txt l)[k].toNat_lt
      generalize num (l.take k) = m at *
      go_wp2
      go_round
      case rel => exact ⟨k + 1, by omega, by go_num, by rw [HE.out]; go_num⟩
      case measure => simp [intOf]; omega
    · have Hkn : Hid (k = l.length) := by show _ = _; omega
      have hd : decide (k < l.length) = false := by simp; omega
      go_wp2
      go_ret
      exact ⟨ret_int (by rw [Hkn.out, List.take_length]), rfl⟩

def rz : Array Value := #[.int .i64 0, .int .i64 0, .int .i64 0, .int .u64 0, .int .u32 0, .string ⟨#[]⟩]
/-- A frame as the document has it. -/
def rv (f : Fm) : Array Value := rfc f.k.toNat f.i.toNat f.c.toNat f.s f.a f.b
/-- What the document's Get answers. -/
def GotR (w : World) (l : List UInt8) (e : Ending) (w' : World) : Prop := e = .returned (.tuple #[.agg (rv (getF l)), .int .i64 (getE l)]) ∧ Below w.heap.size w w'
theorem GotR.no {w w' : World} {l : List UInt8} {e : Int} (he : getE l = e) (h0 : e ≠ 0) (hb : Below w.heap.size w w') : GotR w l (.returned (.tuple #[.agg rz, .int .i64 e])) w' := by
  subst he
  refine ⟨?_, hb⟩
  rw [getF_no h0]
  rfl

theorem built_rz : Try.prog.built 34 [] = some rz := by kernel_rfl
theorem rfc_all (k i c s a : Int) (b : List UInt8) : (rfc k i c s a b).all (·.oneCell') = true := by simp [rfc, Value.oneCell']
theorem rz_all : rz.all (·.oneCell') = true := by simp [rz, Value.oneCell']
/-- While the document's Get goes: its result lies in the block that was made first. -/
def GR (w W : World) : Prop := Below w.heap.size w W ∧ W.heap[w.heap.size]? = some (.cells rz 34 (0, 0))
theorem GR.new {w W : World} (h : Below (w.alloc (.cells rz 34)).heap.size (w.alloc (.cells rz 34)) W) : GR w W :=
  ⟨((Below.refl _ w).alloc (Nat.le_refl _) _).trans (h.mono (by simp)), (h.block _ (by simp)).trans (heap_alloc_new w _)⟩
theorem GR.drew {w W : World} (h : GR w W) : GR w W.drew := ⟨h.1.drew, h.2⟩

set_option maxRecDepth 100000 in
set_option maxHeartbeats 2000000 in
theorem refGet_len (l : List UInt8) (w : World) (h : l.length ≠ 128) :
    Calls Try.prog 14 #[.string (txt l)] w (GotR w l) := by
  have HE := Lib.hid (getE_len h)
  have hsz := txt_size l
  have hd : ((l.length : Int) != 128) = true := by simp; omega
  go_enter Try.func14, Try.ntmps14
  go_wp2
  exact bodyPost_ret (results_fr (cs := rz) rfl _ _ w.heap.size _ (heap_alloc_new w _) size_F (by rfl) (by rfl) Try.underlying34) rfl (GotR.no HE.out (by decide) ((Below.refl _ w).alloc (Nat.le_refl _) _))

set_option maxRecDepth 100000 in
set_option maxHeartbeats 2000000 in
theorem refGet_sum (l : List UInt8) (w : World) (h : l.length = 128) (hr : right l = false) :
    Calls Try.prog 14 #[.string (txt l)] w (GotR w l) := by
  have HE := Lib.hid (getE_sum h hr)
  have HR := Lib.hid hr
  have hsz : (txt l).size = 128 := by rw [txt_size, h]
  have hl : l.length ≤ 1000000 := by omega
  clear h hr
  go_enter Try.func14, Try.ntmps14
  go_wp2_with fail
  refine (refRight l _ hl).mono ?_
  rw [HR.out]
  rintro e w1 ⟨rfl, hw1⟩
  have HG1 : Hid (GR w w1) := GR.new hw1
  clear hw1
  go_wp2_with (first
      | (refine Did.list rfl (did_build 34 #[] rfl rz built_rz) ?_)
      | (refine wpList_store_any rfl 34 (.tmp 2) (.tmp 15) rfl w.heap.size rz rfl rfl 34 _ HG1.out.2 size_F rfl rz_all ?_
         intro wz hb hs hw
         have HBZ := Lib.hid hb
         have HWZ : Hid (Below w.heap.size w wz) := HG1.out.1.trans (Keep.below (hw.mono fun k hk => by omega))
         clear hb hs hw))
  refine bodyPost_ret (results_fr rfl _ wz w.heap.size _ HBZ.out size_F (by rfl) (by rfl) Try.underlying34) rfl (GotR.no HE.out (by decide) HWZ.out)

/-- A byte of a text. -/
theorem txt_at (l : List UInt8) (j : Nat) (h : j < (txt l).size) : (txt l)[j] = l.getD j 0 := by
  have h' : j < l.length := by rwa [txt_size] at h
  rw [txt_get l j h h', List.getD_eq_getElem?_getD, List.getElem?_eq_getElem h', Option.getD_some]

set_option maxRecDepth 100000 in
set_option maxHeartbeats 2000000 in
theorem refGet_kind (l : List UInt8) (w : World) (h : l.length = 128) (hr : right l = true) (hk : (l.getD 0 0).toNat < 1 ∨ 4 < (l.getD 0 0).toNat ∨ 108 < (l.getD 3 0).toNat) :
    Calls Try.prog 14 #[.string (txt l)] w (GotR w l) := by
  have HE := Lib.hid (getE_kind h hr hk)
  have HR := Lib.hid hr
  have hsz : (txt l).size = 128 := by rw [txt_size, h]
  have hl : l.length ≤ 1000000 := by omega
  have e0 := txt_at l 0 (by omega)
  have e3 := txt_at l 3 (by omega)
  clear h hr
  generalize l.getD 0 0 = x0 at *
  generalize l.getD 3 0 = x3 at *
  have b0 := x0.toNat_lt
  have b3 := x3.toNat_lt
  by_cases h1 : x0.toNat < 1
  · have d1 : decide ((x0.toNat : Int) < 1) = true := by simp; omega
    go_enter Try.func14, Try.ntmps14
    go_wp2_with fail
    refine (refRight l _ hl).mono ?_
    rw [HR.out]
    rintro e w1 ⟨rfl, hw1⟩
    have HG1 : Hid (GR w w1) := GR.new hw1
    clear hw1
    go_wp2_with (first
        | (refine Did.list rfl (did_build 34 #[] rfl rz built_rz) ?_)
        | (refine wpList_store_any rfl 34 (.tmp 2) (.tmp 31) rfl w.heap.size rz rfl rfl 34 _ HG1.out.2 size_F rfl rz_all ?_
           intro wz hb hs hw
           have HBZ := Lib.hid hb
           have HWZ : Hid (Below w.heap.size w wz) := HG1.out.1.trans (Keep.below (hw.mono fun k hk => by omega))
           clear hb hs hw))
    refine bodyPost_ret (results_fr rfl _ wz w.heap.size _ HBZ.out size_F (by rfl) (by rfl) Try.underlying34) rfl (GotR.no HE.out (by decide) HWZ.out)
  · have d1 : decide ((x0.toNat : Int) < 1) = false := by simp; omega
    by_cases h2 : 4 < x0.toNat
    · have d2 : decide ((4 : Int) < (x0.toNat : Int)) = true := by simp; omega
      go_enter Try.func14, Try.ntmps14
      go_wp2_with fail
      refine (refRight l _ hl).mono ?_
      rw [HR.out]
      rintro e w1 ⟨rfl, hw1⟩
      have HG1 : Hid (GR w w1) := GR.new hw1
      clear hw1
      go_wp2_with (first
          | (refine Did.list rfl (did_build 34 #[] rfl rz built_rz) ?_)
          | (refine wpList_store_any rfl 34 (.tmp 2) (.tmp 31) rfl w.heap.size rz rfl rfl 34 _ HG1.out.2 size_F rfl rz_all ?_
             intro wz hb hs hw
             have HBZ := Lib.hid hb
             have HWZ : Hid (Below w.heap.size w wz) := HG1.out.1.trans (Keep.below (hw.mono fun k hk => by omega))
             clear hb hs hw))
      refine bodyPost_ret (results_fr rfl _ wz w.heap.size _ HBZ.out size_F (by rfl) (by rfl) Try.underlying34) rfl (GotR.no HE.out (by decide) HWZ.out)
    · have d2 : decide ((4 : Int) < (x0.toNat : Int)) = false := by simp; omega
      have d3 : decide ((108 : Int) < (x3.toNat : Int)) = true := by simp; omega
      go_enter Try.func14, Try.ntmps14
      go_wp2_with fail
      refine (refRight l _ hl).mono ?_
      rw [HR.out]
      rintro e w1 ⟨rfl, hw1⟩
      have HG1 : Hid (GR w w1) := GR.new hw1
      clear hw1
      go_wp2_with (first
          | (refine Did.list rfl (did_build 34 #[] rfl rz built_rz) ?_)
          | (refine wpList_store_any rfl 34 (.tmp 2) (.tmp 31) rfl w.heap.size rz rfl rfl 34 _ HG1.out.2 size_F rfl rz_all ?_
             intro wz hb hs hw
             have HBZ := Lib.hid hb
             have HWZ : Hid (Below w.heap.size w wz) := HG1.out.1.trans (Keep.below (hw.mono fun k hk => by omega))
             clear hb hs hw))
      refine bodyPost_ret (results_fr rfl _ wz w.heap.size _ HBZ.out size_F (by rfl) (by rfl) Try.underlying34) rfl (GotR.no HE.out (by decide) HWZ.out)

/-- A part of a text. -/
theorem txt_part (l : List UInt8) (i j : Nat) : (txt l).extract i j = txt ((l.drop i).take (j - i)) := by
  apply ByteArray.ext
  simp [txt, ByteArray.data_extract]

/-- All noughts from place p on, as far as j. -/
theorem nought_from (l : List UInt8) (p m : Nat) (hl : p + m ≤ l.length) : nought ((l.drop p).take m) = true ↔ ∀ j, p ≤ j → j < p + m → (l.getD j 0).toNat = 0 := by
  have hlen : ((l.drop p).take m).length = m := by rw [List.length_take, List.length_drop]; omega
  have hget : ∀ j (h : j < ((l.drop p).take m).length), ((l.drop p).take m)[j] = l.getD (p + j) 0 := fun j h => by
    rw [List.getElem_take, List.getElem_drop, List.getD_eq_getElem?_getD, List.getElem?_eq_getElem (by omega), Option.getD_some]
  unfold nought
  rw [List.all_eq_true]
  constructor
  · intro h j h1 h2
    have := h _ (List.getElem_mem (show j - p < ((l.drop p).take m).length by omega))
    rw [hget, show p + (j - p) = j by omega, beq_iff_eq] at this
    rw [this]
    rfl
  · intro h x hx
    obtain ⟨j, hj, rfl⟩ := List.getElem_of_mem hx
    rw [hget, beq_iff_eq]
    exact UInt8.toNat_inj.1 (by simpa using h (p + j) (by omega) (by omega))

set_option maxRecDepth 100000 in
set_option maxHeartbeats 4000000 in
theorem refGet_rest (l : List UInt8) (w : World) (h : l.length = 128) (hr : right l = true) (hk : ¬ ((l.getD 0 0).toNat < 1 ∨ 4 < (l.getD 0 0).toNat ∨ 108 < (l.getD 3 0).toNat)) :
    Calls Try.prog 14 #[.string (txt l)] w (GotR w l) := by
  have HR := Lib.hid hr
  have hsz : (txt l).size = 128 := by rw [txt_size, h]
  have hl : l.length ≤ 1000000 := by omega
  have e0 := txt_at l 0 (by omega)
  have e3 := txt_at l 3 (by omega)
  have HNO : Hid (∀ j, 16 + (l.getD 3 0).toNat ≤ j → j < 124 → (l.getD j 0).toNat ≠ 0 → getE l = 11) := fun j h1 h2 h3 => getE_rest h hr hk (by
    rw [← Bool.not_eq_true, nought_from l _ _ (by omega)]
    exact fun hx => h3 (hx j h1 (by omega)))
  have HOK : Hid ((∀ j, 16 + (l.getD 3 0).toNat ≤ j → j < 124 → (l.getD j 0).toNat = 0) → getE l = 0) := fun hx => getE_ok h hr hk (by
    rw [nought_from l _ _ (by omega)]
    exact fun j h1 h2 => hx j h1 (by omega))
  have HF : Hid (getE l = 0 → getF l = ⟨l.getD 0 0, l.getD 1 0, l.getD 2 0, num ((l.drop 4).take 8), num ((l.drop 12).take 4), (l.drop 16).take (l.getD 3 0).toNat⟩) := fun hx => getF_ok hx
  have HAT : Hid (∀ j, j < 128 → ∃ hj : j < (txt l).size, (txt l)[j] = l.getD j 0) := fun j hj => ⟨by omega, txt_at l j (by omega)⟩
  have HLEN := Lib.hid h
  clear h hr
  generalize l.getD 0 0 = x0 at *
  generalize l.getD 3 0 = x3 at *
  have b0 := x0.toNat_lt
  have b3 := x3.toNat_lt
  have d1 : decide ((x0.toNat : Int) < 1) = false := by simp; omega
  have d2 : decide ((4 : Int) < (x0.toNat : Int)) = false := by simp; omega
  have d3 : decide ((108 : Int) < (x3.toNat : Int)) = false := by simp; omega
  go_enter Try.func14, Try.ntmps14
  go_wp2_with fail
  refine (refRight l _ hl).mono ?_
  rw [HR.out]
  rintro e w1 ⟨rfl, hw1⟩
  have HG1 : Hid (GR w w1) := GR.new hw1
  clear hw1
  go_wp2_with fail
  go_loop [6] (fun i => ∃ j : Nat, 16 + x3.toNat ≤ j ∧ j ≤ 124 ∧ i = .int .i64 j ∧ Hid (∀ j', 16 + x3.toNat ≤ j' → j' < j → (l.getD j' 0).toNat = 0)) (fun i => 124 - (intOf i).toNat)
  case atStart => exact ⟨16 + x3.toNat, Nat.le_refl _, by omega, by go_num, fun j' h1 h2 => by omega⟩
  case round =>
    obtain ⟨j, hj1, hj2, rfl, HI⟩ := hrel
    by_cases hlt : j < 124
    · have hdj : decide ((j : Int) < 124) = true := by simp; omega
      obtain ⟨hjs, ej⟩ := HAT.out j (by omega)
      by_cases hz : (l.getD j 0).toNat = 0
      · have HI2 : Hid (∀ j', 16 + x3.toNat ≤ j' → j' < j + 1 → (l.getD j' 0).toNat = 0) := fun j' h1 h2 => by
          by_cases e : j' = j
          · rw [e]; exact hz
          · exact HI.out j' h1 (by omega)
        have hdz : (((l.getD j 0).toNat : Int) != 0) = false := by simp at hz ⊢; omega
        clear hz
        generalize l.getD j 0 = xj at *
        go_wp2_with fail
        go_round
        case rel => exact ⟨j + 1, by omega, by omega, by go_num, HI2⟩
        case measure => simp [intOf]; omega
      · have HE : Hid (getE l = 11) := HNO.out j hj1 hlt hz
        have hdz : (((l.getD j 0).toNat : Int) != 0) = true := by simp at hz ⊢; omega
        clear hz
        generalize l.getD j 0 = xj at *
        go_wp2_with (first
            | (refine Did.list rfl (did_build 34 #[] rfl rz built_rz) ?_)
            | (refine wpList_store_any rfl 34 (.tmp 2) (.tmp 42) rfl w.heap.size rz rfl rfl 34 _ HG1.out.2 size_F rfl rz_all ?_
               intro wz hb hs hw
               have HBZ := Lib.hid hb
               have HWZ : Hid (Below w.heap.size w wz) := HG1.out.1.trans (Keep.below (hw.mono fun k hk => by omega))
               clear hb hs hw))
        refine bodyPost_ret (results_fr rfl _ wz w.heap.size _ HBZ.out size_F (by rfl) (by rfl) Try.underlying34) rfl (GotR.no HE.out (by decide) HWZ.out)
    · have hdj : decide ((j : Int) < 124) = false := by simp; omega
      have HE : Hid (getE l = 0) := HOK.out fun j' h1 h2 => HI.out j' h1 (by omega)
      obtain ⟨h1s, e1⟩ := HAT.out 1 (by omega)
      obtain ⟨h2s, e2⟩ := HAT.out 2 (by omega)
      have HF2 := Lib.hid (HF.out HE.out)
      generalize l.getD 1 0 = x1 at *
      generalize l.getD 2 0 = x2 at *
      have b1 := x1.toNat_lt
      have b2 := x2.toNat_lt
      have y1 : (16 : Int) ≤ 16 + (x3.toNat : Int) := by omega
      have y2 : 16 + (x3.toNat : Int) ≤ (128 : Int) := by omega
      go_wp2_with fail
      refine wp_region_any (by kernel_rfl) ?_
      change wpAny _ _ _ _ _ _ _ (World.drew _)
      have z0 : IntKind.i64.wrap (x0.toNat : Int) = (x0.toNat : Int) := by rw [IntKind.wrap_i64]; omega
      have z1 : IntKind.i64.wrap (x1.toNat : Int) = (x1.toNat : Int) := by rw [IntKind.wrap_i64]; omega
      have z2 : IntKind.i64.wrap (x2.toNat : Int) = (x2.toNat : Int) := by rw [IntKind.wrap_i64]; omega
      have z3 : IntKind.i64.wrap (16 + (x3.toNat : Int)) = 16 + (x3.toNat : Int) := by rw [IntKind.wrap_i64]; omega
      have z4 : (16 + (x3.toNat : Int)).toNat = 16 + x3.toNat := by omega
      refine wpAny_takeTo (i := 0) 43 (.string (txt l)) rfl rfl (by kernel_rfl) (by kernel_rfl) (by kernel_rfl) (fun _ _ _ h => h) (Or.inl ⟨by rfl, fun w => by go_simp⟩) ?_
      simp only [Act.put, List.setIfInBounds_toArray, List.set_cons_zero, List.set_cons_succ]
      refine wpAny_takeTo (i := 1) 44 (.int .u8 (x0.toNat : Int)) rfl rfl (by kernel_rfl) (by kernel_rfl) (by kernel_rfl) (fun _ _ _ h => h) (Or.inl ⟨by rfl, fun w => by go_simp⟩) ?_
      simp only [Act.put, List.setIfInBounds_toArray, List.set_cons_zero, List.set_cons_succ]
      refine wpAny_takeTo (i := 2) 45 (.int .i64 (x0.toNat : Int)) rfl rfl (by kernel_rfl) (by kernel_rfl) (by kernel_rfl) (fun _ _ _ h => h) (Or.inl ⟨by rfl, fun w => by go_simp⟩) ?_
      simp only [Act.put, List.setIfInBounds_toArray, List.set_cons_zero, List.set_cons_succ]
      refine wpAny_takeTo (i := 3) 46 (.string (txt l)) rfl rfl (by kernel_rfl) (by kernel_rfl) (by kernel_rfl) (fun _ _ _ h => h) (Or.inl ⟨by rfl, fun w => by go_simp⟩) ?_
      simp only [Act.put, List.setIfInBounds_toArray, List.set_cons_zero, List.set_cons_succ]
      refine wpAny_takeTo (i := 4) 47 (.int .u8 (x1.toNat : Int)) rfl rfl (by kernel_rfl) (by kernel_rfl) (by kernel_rfl) (fun _ _ _ h => h) (Or.inl ⟨by rfl, fun w => by go_simp⟩) ?_
      simp only [Act.put, List.setIfInBounds_toArray, List.set_cons_zero, List.set_cons_succ]
      refine wpAny_takeTo (i := 5) 48 (.int .i64 (x1.toNat : Int)) rfl rfl (by kernel_rfl) (by kernel_rfl) (by kernel_rfl) (fun _ _ _ h => h) (Or.inl ⟨by rfl, fun w => by go_simp⟩) ?_
      simp only [Act.put, List.setIfInBounds_toArray, List.set_cons_zero, List.set_cons_succ]
      refine wpAny_takeTo (i := 6) 49 (.string (txt l)) rfl rfl (by kernel_rfl) (by kernel_rfl) (by kernel_rfl) (fun _ _ _ h => h) (Or.inl ⟨by rfl, fun w => by go_simp⟩) ?_
      simp only [Act.put, List.setIfInBounds_toArray, List.set_cons_zero, List.set_cons_succ]
      refine wpAny_takeTo (i := 7) 50 (.int .u8 (x2.toNat : Int)) rfl rfl (by kernel_rfl) (by kernel_rfl) (by kernel_rfl) (fun _ _ _ h => h) (Or.inl ⟨by rfl, fun w => by go_simp⟩) ?_
      simp only [Act.put, List.setIfInBounds_toArray, List.set_cons_zero, List.set_cons_succ]
      refine wpAny_takeTo (i := 8) 51 (.int .i64 (x2.toNat : Int)) rfl rfl (by kernel_rfl) (by kernel_rfl) (by kernel_rfl) (fun _ _ _ h => h) (Or.inl ⟨by rfl, fun w => by go_simp⟩) ?_
      simp only [Act.put, List.setIfInBounds_toArray, List.set_cons_zero, List.set_cons_succ]
      refine wpAny_takeTo (i := 9) 52 (.string (txt l)) rfl rfl (by kernel_rfl) (by kernel_rfl) (by kernel_rfl) (fun _ _ _ h => h) (Or.inl ⟨by rfl, fun w => by go_simp⟩) ?_
      simp only [Act.put, List.setIfInBounds_toArray, List.set_cons_zero, List.set_cons_succ]
      refine wpAny_takeTo (i := 10) 53 (.string ((txt l).extract 4 12)) rfl rfl (by kernel_rfl) (by kernel_rfl) (by kernel_rfl) (fun _ _ _ h => h) (Or.inl ⟨by rfl, fun w => by go_simp⟩) ?_
      simp only [Act.put, List.setIfInBounds_toArray, List.set_cons_zero, List.set_cons_succ]
      refine wpAny_takeTo (i := 12) 55 (.string (txt l)) rfl rfl (by kernel_rfl) (by kernel_rfl) (by kernel_rfl) (fun _ _ _ h => h) (Or.inl ⟨by rfl, fun w => by go_simp⟩) ?_
      simp only [Act.put, List.setIfInBounds_toArray, List.set_cons_zero, List.set_cons_succ]
      refine wpAny_takeTo (i := 13) 56 (.string ((txt l).extract 12 16)) rfl rfl (by kernel_rfl) (by kernel_rfl) (by kernel_rfl) (fun _ _ _ h => h) (Or.inl ⟨by rfl, fun w => by go_simp⟩) ?_
      simp only [Act.put, List.setIfInBounds_toArray, List.set_cons_zero, List.set_cons_succ]
      refine wpAny_takeTo (i := 16) 59 (.string (txt l)) rfl rfl (by kernel_rfl) (by kernel_rfl) (by kernel_rfl) (fun _ _ _ h => h) (Or.inl ⟨by rfl, fun w => by go_simp⟩) ?_
      simp only [Act.put, List.setIfInBounds_toArray, List.set_cons_zero, List.set_cons_succ]
      refine wpAny_takeTo (i := 17) 60 (.int .i64 (x3.toNat : Int)) rfl rfl (by kernel_rfl) (by kernel_rfl) (by kernel_rfl) (fun _ _ _ h => h) (Or.inl ⟨by rfl, fun w => by go_simp⟩) ?_
      simp only [Act.put, List.setIfInBounds_toArray, List.set_cons_zero, List.set_cons_succ]
      refine wpAny_takeTo (i := 18) 61 (.int .i64 (16 + (x3.toNat : Int))) rfl rfl (by kernel_rfl) (by kernel_rfl) (by kernel_rfl) (fun _ _ _ h => h) (Or.inl ⟨by rfl, fun w => by go_simp⟩) ?_
      simp only [Act.put, List.setIfInBounds_toArray, List.set_cons_zero, List.set_cons_succ]
      refine wpAny_takeTo (i := 19) 62 (.string ((txt l).extract 16 (16 + x3.toNat))) rfl rfl (by kernel_rfl) (by kernel_rfl) (by kernel_rfl) (fun _ _ _ h => h) (Or.inl ⟨by rfl, fun w => by go_simp⟩) ?_
      simp only [Act.put, List.setIfInBounds_toArray, List.set_cons_zero, List.set_cons_succ]
      rw [txt_part l 4 12, txt_part l 12 16, txt_part l 16 (16 + x3.toNat), show 12 - 4 = 8 from rfl, show 16 - 12 = 4 from rfl, show 16 + x3.toNat - 16 = x3.toNat by omega]
      refine wpAny_ready (rs := [11]) (by kernel_rfl) (by simp) ?_
      refine AllReady.cons rfl (fun K hK => ?_) AllReady.nil
      go_simp
      refine (refNum ((l.drop 4).take 8) _ (by rw [List.length_take]; omega)).mono ?_
      rintro e w' ⟨rfl, rfl⟩
      refine hK _ _ ?_
      clear hK K
      refine wpAny_ready (rs := [14]) (by kernel_rfl) (by simp) ?_
      refine AllReady.cons rfl (fun K hK => ?_) AllReady.nil
      go_simp
      refine (refNum ((l.drop 12).take 4) _ (by rw [List.length_take]; omega)).mono ?_
      rintro e w' ⟨rfl, rfl⟩
      refine hK _ _ ?_
      clear hK K
      have HN8 : Hid (num ((l.drop 4).take 8) < 18446744073709551616) := by
        have := num_lt ((l.drop 4).take 8)
        rw [List.length_take, List.length_drop, HLEN.out] at this
        exact this
      have HN4 : num ((l.drop 12).take 4) < 4294967296 := by
        have := num_lt ((l.drop 12).take 4)
        rw [List.length_take, List.length_drop, HLEN.out] at this
        exact this
      generalize num ((l.drop 4).take 8) = s8 at *
      generalize num ((l.drop 12).take 4) = s4 at *
      have z5 : IntKind.u32.wrap (s4 : Int) = (s4 : Int) := by rw [IntKind.wrap_u32]; omega
      refine wpAny_takeTo (i := 15) 58 (.int .u32 (s4 : Int)) rfl rfl (by kernel_rfl) (by kernel_rfl) (by kernel_rfl) (fun _ _ _ h => h) (Or.inl ⟨by rfl, fun w => by go_simp⟩) ?_
      simp only [Act.put, List.setIfInBounds_toArray, List.set_cons_zero, List.set_cons_succ]
      refine wpAny_tail (k := 20) (by kernel_rfl) (by kernel_rfl) ?_
      simp only [List.drop_succ_cons, List.drop_zero]
      go_wp2_with (first
        | (refine wpList_store_any rfl 34 (.tmp 2) (.tmp 63) rfl w.heap.size (rfc x0.toNat x1.toNat x2.toNat s8 s4 ((l.drop 16).take x3.toNat)) rfl rfl 34 _ HG1.out.drew.2 size_F rfl (rfc_all _ _ _ _ _ _) ?_
           intro wz hb hs hw
           have HBZ := Lib.hid hb
           have HWZ : Hid (Below w.heap.size w wz) := HG1.out.drew.1.trans (Keep.below (hw.mono fun k hk => by omega))
           clear hb hs hw))
      refine bodyPost_ret (results_fr rfl _ wz w.heap.size _ HBZ.out size_F (by rfl) (by rfl) Try.underlying34) rfl ⟨?_, HWZ.out⟩
      rw [HF2.out, HE.out]
      rfl

/-- The document's Get, whatever the bytes. -/
theorem refGet_any (l : List UInt8) (w : World) : Calls Try.prog 14 #[.string (txt l)] w (GotR w l) := by
  by_cases h1 : l.length = 128
  · by_cases h2 : right l = true
    · by_cases h3 : (l.getD 0 0).toNat < 1 ∨ 4 < (l.getD 0 0).toNat ∨ 108 < (l.getD 3 0).toNat
      · exact refGet_kind l w h1 h2 h3
      · exact refGet_rest l w h1 h2 h3
    · exact refGet_sum l w h1 (by simpa using h2)
  · exact refGet_len l w h1
end Go.Proofs.Ytbikfmcppfkjgaa
