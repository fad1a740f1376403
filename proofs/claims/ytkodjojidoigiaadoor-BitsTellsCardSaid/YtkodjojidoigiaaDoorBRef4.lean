/-
  The document's answers for layer 6: With.
-/
import Derived.Test.YtkodjojidoigiaaDoorBRef2
import Derived.Test.YtkodjojidoigiaaDoorBMem
import Derived.Test.YtkodjojidoigiaaDoorBWithW
namespace Go.Proofs.YtkodjojidoigiaaDoor
open Go.RowKit

/-- What the document's With hands back. -/
def RWP (r : List UInt8) (w : World) (e : Ending) (w' : World) : Prop := e = .returned (.string (txt r)) ∧ Below w.heap.size w w'
theorem txt_take (l : List UInt8) (n : Nat) : (txt l).extract 0 n = txt (l.take n) := by
  apply ByteArray.ext
  simp [txt]

theorem txt_drop (l : List UInt8) (n : Nat) : (txt l).extract n l.length = txt (l.drop n) := by
  apply ByteArray.ext
  simp [txt]
  rw [List.take_of_length_le (by simp)]
/-- The text of the first j + 1 bytes. -/
theorem txt_part (l : List UInt8) (j : Nat) (h : j < l.length) : ∃ S : ByteArray, S = txt (l.take (j + 1)) ∧ ∃ hsz : S.size = j + 1, (S[j]'(by omega)).toNat = l[j].toNat ∧ S.extract 0 j = txt (l.take j) := by
  refine ⟨_, rfl, by rw [txt_size, List.length_take]; omega, ?_, ?_⟩
  · show ((l.take (j + 1))[j]'(by rw [List.length_take]; omega)).toNat = _
    rw [List.getElem_take]
  · rw [txt_take, List.take_take]
    congr 2
    omega

set_option maxRecDepth 100000 in
set_option maxHeartbeats 2000000 in
theorem refWith_any (l : List UInt8) (i : Int) (t : Bool) (w : World) (hi : i ≤ 1000000) (hl : l.length ≤ 100000) :
    Calls Tryd.prog 14 #[.string (txt l), .int .i64 i, .bool t] w (RWP (Bt.witI l i t) w) := by
  have hs := txt_size l
  by_cases h0 : i < 0
  · have HE := Lib.hid (Bt.witI_neg l t h0)
    have HW : Hid (Below w.heap.size w w) := Below.refl _ _
    have hd : decide (0 ≤ i) = false := by simp; omega
    have HLL : Hid (l.length ≤ 300000) := by show _ ≤ _; omega
    clear hs
    go_enter Tryd.func14, Tryd.ntmps14
    go_wp2_with fail
    clear hd h0 hi hl
    go_loop [0] (fun v => ∃ m : Nat, m ≤ l.length ∧ v = .string (txt (l.take m)) ∧ Hid (Bt.trim (l.take m) = Bt.trim l)) (fun v => match v with | .string s => s.size | _ => 0)
    case atStart => exact ⟨l.length, Nat.le_refl _, by rw [List.take_length], by show _ = _; rw [List.take_length]⟩
    case round =>
      obtain ⟨m, hm, rfl, HT⟩ := hrel
      have hll := HLL.out
      rcases Nat.eq_zero_or_pos m with hm0 | hm0
      · subst hm0
        have HE2 : Hid (Bt.trim l = []) := by show _ = _; rw [← HT.out]; rfl
        have hz : (txt (l.take 0)).size = 0 := by rw [txt_size]; rfl
        have HR : Hid (txt (l.take 0) = txt []) := rfl
        go_wp2
        go_ret
        unfold RWP
        rw [HE.out, HE2.out]
        exact ⟨rfl, HW.out⟩
      · obtain ⟨j, rfl⟩ : ∃ j, m = j + 1 := ⟨m - 1, by omega⟩
        have hjl : j < l.length := by omega
        obtain ⟨S, hS, hsz, hv, hx⟩ := txt_part l j hjl
        rw [← hS]
        have HS := Lib.hid hS
        have HX := Lib.hid hx
        clear hS hx
        have e1 : ((j + 1 : Nat) : Int) - 1 = (j : Int) := by omega
        have HRR : Hid (l[j].toNat ≠ 0 → Bt.trim l = l.take (j + 1)) := fun h => by
          rw [← HT.out]; exact take_trimmed hjl (fun e => h (by rw [e]; rfl))
        have HRZ : Hid (l[j].toNat = 0 → Bt.trim (l.take j) = Bt.trim l) := fun h => by
          rw [← HT.out]; exact (take_trim hjl (UInt8.toNat_inj.1 (by simpa using h))).symm
        have hby := l[j].toNat_lt
        generalize l[j].toNat = b at *
        by_cases hb0 : b = 0
        · subst hb0
          go_wp2
          rw [HX.out]
          go_round
          case rel => exact ⟨j, by omega, rfl, HRZ.out rfl⟩
          case measure => simp [txt_size]; omega
        · have hbb : ((b : Int) == 0) = false := by simp; omega
          go_wp2
          go_ret
          unfold RWP
          rw [HE.out, HRR.out hb0, ← HS.out]
          exact ⟨rfl, HW.out⟩
  · obtain ⟨k, rfl⟩ := Int.eq_ofNat_of_zero_le (show 0 ≤ i by omega)
    have HWT := Lib.hid (Bt.witI_nat l k t)
    obtain ⟨q, hq, hqk⟩ : ∃ q : Nat, (k : Int) / 8 = (q : Int) ∧ q = k / 8 := ⟨k / 8, by omega, rfl⟩
    have HQK := Lib.hid hqk
    have hd0 : decide (0 ≤ (k : Int)) = true := by simp
    have hql : q ≤ 200000 := by omega
    clear hqk
    cases t
    · by_cases hlt : q < l.length
      · have hlz : (q : Int) < ((txt l).size : Int) := by rw [hs]; omega
        clear hs
        go_enter Tryd.func14, Tryd.ntmps14
        go_wp2_with fail
        go_loop [0] (fun v => v = .string (txt l)) (fun _ => 0)
        case atStart => rfl
        case round =>
          subst hrel
          have HP : Hid (l = Bt.pre l k false) := rfl
          have hpq : q < (txt l).size := by omega
          have hps : (txt l).size ≤ 400000 := by rw [txt_size]; omega
          have hpd : decide ((txt l).size ≤ q) = false := by simp; omega
          have HPZ : Hid ((txt l).size = l.length) := txt_size l
          clear hlz hlt
          go_wp2_with fail
          clear hpd
          go_loop [7, 8] (fun x i => ∃ j : Nat, k % 8 ≤ j ∧ j ≤ 7 ∧ i = .int .i64 j ∧ x = .int .i64 ((2 ^ (j - k % 8) : Nat) : Int)) (fun _ i => 7 - (intOf i).toNat)
          case atStart => exact ⟨k % 8, Nat.le_refl _, by omega, by rfl, by simp⟩
          case round =>
            obtain ⟨j, hj1, hj2, rfl, rfl⟩ := hrel
            have hpw : 2 ^ (j - k % 8) ≤ 128 := by
              have := Nat.pow_le_pow_right (n := 2) (by omega) (show j - k % 8 ≤ 7 by omega)
              simpa using this
            by_cases hj7 : j < 7
            · have HPS : Hid (2 ^ (j + 1 - k % 8) = 2 ^ (j - k % 8) * 2) := by show _ = _; rw [show j + 1 - k % 8 = (j - k % 8) + 1 by omega, Nat.pow_succ]
              generalize 2 ^ (j - k % 8) = p at *
              go_wp2
              go_round
              case rel => exact ⟨j + 1, by omega, by omega, by go_num, by rw [HPS.out]; go_num⟩
              case measure => simp [intOf]; omega
            · have hje : j = 7 := by omega
              subst hje
              obtain ⟨x, hxP, hx, hxP2⟩ : ∃ x : UInt8, l[q]? = some x ∧ (∃ h : q < (txt l).size, ((txt l)[q]'h).toNat = x.toNat) ∧ Bt.has l k = x.toNat.testBit (7 - k % 8) := by
                have hql : q < l.length := by rw [← HPZ.out]; exact hpq
                refine ⟨l[q], by rw [List.getElem?_eq_getElem hql], ⟨hpq, rfl⟩, ?_⟩
                unfold Bt.has
                rw [← HQK.out, List.getD_eq_getElem?_getD, List.getElem?_eq_getElem hql, Option.getD_some]
              obtain ⟨hpq', hx'⟩ := hx
              have HCH := Lib.hid (Bt.chg_nat x (7 - k % 8) (by omega) false)
              have hxl := x.toNat_lt
              have hx256 : x.toNat < 256 := hxl
              have HXL := Lib.hid hxl
              have HBIT : Hid (if x.toNat.testBit (7 - k % 8) then 2 ^ (7 - k % 8) ≤ x.toNat else x.toNat + 2 ^ (7 - k % 8) < 256) := by
                have h1 := (Bt.chg_all ⟨x.toNat, hxl⟩ ⟨7 - k % 8, by omega⟩ true ⟨0, by omega⟩).2
                show if _ then _ else _
                cases hc : x.toNat.testBit (7 - k % 8)
                · simp [hc] at h1 ⊢; exact h1
                · simp; exact Nat.ge_two_pow_of_testBit hc
              clear hxl
              have HH := Lib.hid hxP2
              have HXP := Lib.hid hxP
              have HXQ := Lib.hid hx'
              have HSP : Hid (Bt.put l k false = l.take q ++ (Bt.chg x (7 - k % 8) false :: l.drop (q + 1))) := by
                show _ = _
                unfold Bt.put
                rw [← HP.out, ← HQK.out, List.getD_eq_getElem?_getD, hxP, Option.getD_some, List.set_eq_take_append_cons_drop, if_pos (by rw [← HPZ.out]; exact hpq)]
              clear hxP2 hxP hx'
              have hby : ((txt l)[q]'hpq').toNat < 256 := ((txt l)[q]'hpq').toNat_lt
              go_wp2_with fail
              rw [HXQ.out]
              refine (refHas_any l k w (by omega) (by rw [← HPZ.out]; omega)).mono ?_
              rintro e w2 ⟨rfl, rfl⟩
              rw [Bt.hasI_nat, HH.out]
              have HPW : Hid ((2 : Int) ^ (7 - k % 8) = ((2 ^ (7 - k % 8) : Nat) : Int)) := by show _ = _; simp
              rw [HPW.out]
              clear hby HXQ HXP HXL HPW
              cases hc : x.toNat.testBit (7 - k % 8)
              all_goals
                have hbt := HBIT.out
                have hch := HCH.out
                rw [hc] at hbt hch
                simp only [if_true, Bool.false_eq_true, if_false] at hbt hch
                have HC := Lib.hid hch
                clear hch hc HBIT HCH HH
                generalize x.toNat = b at *
                generalize 2 ^ (7 - k % 8) = p at *
                go_upto_region 15 with (fail)
                generalize Bt.chg x (7 - k % 8) false = z at *
                have hzl := z.toNat_lt
                have hz256 : (z.toNat : Int) < 256 := by omega
                first
                  | (have HY : Hid ((b : Int) - (p : Int) = (z.toNat : Int)) := by { show _ = _; have := HC.out; omega }
                     rw [HY.out])
                  | (have HY : Hid ((b : Int) = (z.toNat : Int)) := by { show _ = _; have := HC.out; omega }
                     rw [HY.out])
                clear hzl
                have hq1 : ((q : Int) + 1) ≤ ((txt l).size : Int) := by omega
                have hq0 : (q : Int) ≤ ((txt l).size : Int) := by omega
                have hwq : IntKind.i64.wrap (q : Int) = (q : Int) := IntWalk.i64_in _ (by omega)
                have hwq1 : IntKind.i64.wrap ((q : Int) + 1) = (q : Int) + 1 := IntWalk.i64_in _ (by omega)
                have hkq : Int.tdiv (k : Int) 8 = (q : Int) := by rw [Int.tdiv_eq_ediv_of_nonneg (by omega)]; exact hq
                have hq1n : ((q : Int) + 1).toNat = q + 1 := by omega
                have hwz : IntKind.u8.wrap (z.toNat : Int) = (z.toNat : Int) := by rw [IntKind.wrap_u8]; omega
                refine wp_region_held_drew (S := fun _ => True) (by kernel_rfl) trivial (fun HS0 => ?_)
                have HS := Lib.hid HS0
                change wpAnyH _ _ _ _ _ 16 (Array.replicate 16 false) _ _
                refine takeH (i := 0) 62 (.string (txt l)) rfl rfl (by kernel_rfl) (by kernel_rfl) (by kernel_rfl) (fun _ _ _ h => h) (.inl ⟨by rfl, fun W hW => by go_simp⟩) HS.out ?_
                simp only [Act.put, List.setIfInBounds_toArray, List.set_cons_zero, List.set_cons_succ]
                refine takeH (i := 1) 63 (.int .i64 (k : Int)) rfl rfl (by kernel_rfl) (by kernel_rfl) (by kernel_rfl) (fun _ _ _ h => h) (.inl ⟨by rfl, fun W hW => by go_simp⟩) HS.out ?_
                simp only [Act.put, List.setIfInBounds_toArray, List.set_cons_zero, List.set_cons_succ]
                refine takeH (i := 2) 64 (.int .i64 (q : Int)) rfl rfl (by kernel_rfl) (by kernel_rfl) (by kernel_rfl) (fun _ _ _ h => h) (.inl ⟨by rfl, fun W hW => by go_simp⟩) HS.out ?_
                simp only [Act.put, List.setIfInBounds_toArray, List.set_cons_zero, List.set_cons_succ]
                refine takeH (i := 3) 65 (.string ((txt l).extract 0 q)) rfl rfl (by kernel_rfl) (by kernel_rfl) (by kernel_rfl) (fun _ _ _ h => h) (.inl ⟨by rfl, fun W hW => by go_simp⟩) HS.out ?_
                simp only [Act.put, List.setIfInBounds_toArray, List.set_cons_zero, List.set_cons_succ]
                refine takeH (i := 4) 66 (.int .i64 (z.toNat : Int)) rfl rfl (by kernel_rfl) (by kernel_rfl) (by kernel_rfl) (fun _ _ _ h => h) (.inl ⟨by rfl, fun W hW => by go_simp⟩) HS.out ?_
                simp only [Act.put, List.setIfInBounds_toArray, List.set_cons_zero, List.set_cons_succ]
                refine takeH (i := 5) 67 (.int .u8 (z.toNat : Int)) rfl rfl (by kernel_rfl) (by kernel_rfl) (by kernel_rfl) (fun _ _ _ h => h) (.inl ⟨by rfl, fun W hW => by go_simp⟩) HS.out ?_
                simp only [Act.put, List.setIfInBounds_toArray, List.set_cons_zero, List.set_cons_succ]
                refine takeH (i := 9) 71 (.string (txt l)) rfl rfl (by kernel_rfl) (by kernel_rfl) (by kernel_rfl) (fun _ _ _ h => h) (.inl ⟨by rfl, fun W hW => by go_simp⟩) HS.out ?_
                simp only [Act.put, List.setIfInBounds_toArray, List.set_cons_zero, List.set_cons_succ]
                refine takeH (i := 10) 72 (.int .i64 (k : Int)) rfl rfl (by kernel_rfl) (by kernel_rfl) (by kernel_rfl) (fun _ _ _ h => h) (.inl ⟨by rfl, fun W hW => by go_simp⟩) HS.out ?_
                simp only [Act.put, List.setIfInBounds_toArray, List.set_cons_zero, List.set_cons_succ]
                refine takeH (i := 11) 73 (.int .i64 (q : Int)) rfl rfl (by kernel_rfl) (by kernel_rfl) (by kernel_rfl) (fun _ _ _ h => h) (.inl ⟨by rfl, fun W hW => by go_simp⟩) HS.out ?_
                simp only [Act.put, List.setIfInBounds_toArray, List.set_cons_zero, List.set_cons_succ]
                refine takeH (i := 12) 74 (.int .i64 ((q : Int) + 1)) rfl rfl (by kernel_rfl) (by kernel_rfl) (by kernel_rfl) (fun _ _ _ h => h) (.inl ⟨by rfl, fun W hW => by go_simp⟩) HS.out ?_
                simp only [Act.put, List.setIfInBounds_toArray, List.set_cons_zero, List.set_cons_succ]
                refine takeH (i := 13) 75 (.string ((txt l).extract (q + 1) (txt l).size)) rfl rfl (by kernel_rfl) (by kernel_rfl) (by kernel_rfl) (fun _ _ _ h => h) (.inl ⟨by rfl, fun W hW => by (go_simp; (intro h; omega))⟩) HS.out ?_
                simp only [Act.put, List.setIfInBounds_toArray, List.set_cons_zero, List.set_cons_succ]
                refine wpAnyH_ready (rs := [6]) (by kernel_rfl) (by simp) ?_
                refine AllReadyH.cons rfl (fun K hK => ?_) AllReadyH.nil
                go_simp
                refine hK.out _ _ trivial fun _ => ?_
                clear hK K
                have HTK : Hid ((txt l).extract 0 q = txt (l.take q)) := txt_take l q
                have HDR : Hid ((txt l).extract (q + 1) (txt l).size = txt (l.drop (q + 1))) := by show _ = _; rw [HPZ.out]; exact txt_drop l (q + 1)
                rw [HTK.out, HDR.out]
                have HW : Hid (Below w.heap.size w ((w.alloc (.cells #[.int .u8 (z.toNat : Int)] 5)).drew)) := ((Below.refl _ _).alloc (Nat.le_refl _) _).drew
                have v := run_convert_bs ((w.alloc (.cells #[.int .u8 (z.toNat : Int)] 5)).drew) (some ⟨w.heap.size, 0, none⟩) 1 1 [z] (BS.of_block (heap_alloc_new w _)).drew
                have hsz1 : ¬ 9223372036854775807 < (txt (l.take q)).size + (txt [z]).size := by rw [txt_size, txt_size, List.length_take]; simp; have := HPZ.out; omega
                have HL2 : Hid ((l.take q ++ [z]).length ≤ 500000) := by show _ ≤ _; rw [List.length_append, List.length_take]; simp; have := HPZ.out; omega
                have hsz2 : ¬ 9223372036854775807 < (txt (l.take q ++ [z])).size + (txt (l.drop (q + 1))).size := by rw [txt_size, txt_size, List.length_drop]; have := HPZ.out; have := HL2.out; omega
                have HA1 := Lib.hid (txt_append (l.take q) [z])
                have HA2 := Lib.hid (txt_append (l.take q ++ [z]) (l.drop (q + 1)))
                refine wpAnyH_ready (rs := [7]) (by kernel_rfl) (by simp) ?_
                refine AllReadyH.cons rfl (fun K hK => ?_) AllReadyH.nil
                go_simp
                refine hK.out _ _ trivial fun _ => ?_
                clear hK K v
                refine takeH (i := 8) 70 (.string (txt (l.take q) ++ txt [z])) rfl rfl (by kernel_rfl) (by kernel_rfl) (by kernel_rfl) (fun _ _ _ h => h) (.inl ⟨by rfl, fun W hW => by go_simp⟩) HS.out ?_
                simp only [Act.put, List.setIfInBounds_toArray, List.set_cons_zero, List.set_cons_succ]
                rw [HA1.out]
                refine takeH (i := 14) 76 (.string (txt (l.take q ++ [z]) ++ txt (l.drop (q + 1)))) rfl rfl (by kernel_rfl) (by kernel_rfl) (by kernel_rfl) (fun _ _ _ h => h) (.inl ⟨by rfl, fun W hW => by go_simp⟩) HS.out ?_
                simp only [Act.put, List.setIfInBounds_toArray, List.set_cons_zero, List.set_cons_succ]
                rw [HA2.out, show l.take q ++ [z] ++ l.drop (q + 1) = l.take q ++ (z :: l.drop (q + 1)) by simp, ← HSP.out]
                refine takeH (i := 15) 0 (.string (txt (Bt.put l k false))) rfl rfl (by kernel_rfl) (by kernel_rfl) (by kernel_rfl) (fun _ _ _ h => h) (.inl ⟨by rfl, fun W hW => by go_simp⟩) HS.out ?_
                simp only [Act.put, List.setIfInBounds_toArray, List.set_cons_zero]
                refine wpAnyH_done (by kernel_rfl) ?_ _
                have HE : Hid (Bt.witI l (k : Int) false = Bt.trim (Bt.put l k false)) := HWT.out
                have HLL : Hid ((Bt.put l k false).length ≤ 500000) := by show _ ≤ _; rw [HSP.out, List.length_append, List.length_cons, List.length_take, List.length_drop]; have := HPZ.out; omega
                clear HSP HA1 HA2 hsz1 hsz2 HTK HDR HL2
                generalize Bt.put l k false = L at *
                generalize (w.alloc (.cells #[.int .u8 (z.toNat : Int)] 5)).drew = w4 at *
                go_wp2_with fail
                clear hd0 hi hl hq1 hq0 hwq hwq1 hkq hq1n hwz hpq hpq' hps hbt hpw hx256 hz256 hq hql
                go_loop [0] (fun v => ∃ m : Nat, m ≤ L.length ∧ v = .string (txt (L.take m)) ∧ Hid (Bt.trim (L.take m) = Bt.trim L)) (fun v => match v with | .string s => s.size | _ => 0)
                case atStart => exact ⟨L.length, Nat.le_refl _, by rw [List.take_length], by show _ = _; rw [List.take_length]⟩
                case round =>
                  obtain ⟨m, hm, rfl, HT⟩ := hrel
                  have hll := HLL.out
                  rcases Nat.eq_zero_or_pos m with hm0 | hm0
                  · subst hm0
                    have HE2 : Hid (Bt.trim L = []) := by show _ = _; rw [← HT.out]; rfl
                    have hz : (txt (L.take 0)).size = 0 := by rw [txt_size]; rfl
                    have HR : Hid (txt (L.take 0) = txt []) := rfl
                    go_wp2
                    go_ret
                    unfold RWP
                    rw [HE.out, HE2.out]
                    exact ⟨rfl, HW.out⟩
                  · obtain ⟨j, rfl⟩ : ∃ j, m = j + 1 := ⟨m - 1, by omega⟩
                    have hjl : j < L.length := by omega
                    obtain ⟨S, hS, hsz, hv, hx⟩ := txt_part L j hjl
                    rw [← hS]
                    have HS := Lib.hid hS
                    have HX := Lib.hid hx
                    clear hS hx
                    have e1 : ((j + 1 : Nat) : Int) - 1 = (j : Int) := by omega
                    have HRR : Hid (L[j].toNat ≠ 0 → Bt.trim L = L.take (j + 1)) := fun h => by
                      rw [← HT.out]; exact take_trimmed hjl (fun e => h (by rw [e]; rfl))
                    have HRZ : Hid (L[j].toNat = 0 → Bt.trim (L.take j) = Bt.trim L) := fun h => by
                      rw [← HT.out]; exact (take_trim hjl (UInt8.toNat_inj.1 (by simpa using h))).symm
                    have hby := L[j].toNat_lt
                    generalize L[j].toNat = b at *
                    by_cases hb0 : b = 0
                    · subst hb0
                      go_wp2
                      rw [HX.out]
                      go_round
                      case rel => exact ⟨j, by omega, rfl, HRZ.out rfl⟩
                      case measure => simp [txt_size]; omega
                    · have hbb : ((b : Int) == 0) = false := by simp; omega
                      go_wp2
                      go_ret
                      unfold RWP
                      rw [HE.out, HRR.out hb0, ← HS.out]
                      exact ⟨rfl, HW.out⟩
          
      · have hlz : ((txt l).size : Int) ≤ (q : Int) := by rw [hs]; omega
        have HE : Hid (Bt.witI l (k : Int) false = Bt.trim l) := by
          show _ = _
          rw [HWT.out]
          unfold Bt.wit Bt.put
          rw [List.set_eq_of_length_le (by rw [Bt.pre_length]; simp; have := HQK.out; omega)]
          rfl
        have HW : Hid (Below w.heap.size w w) := Below.refl _ _
        have HLL : Hid (l.length ≤ 300000) := by show _ ≤ _; omega
        clear hs
        go_enter Tryd.func14, Tryd.ntmps14
        go_wp2_with fail
        clear hd0 hi hl hlz hlt hq hql
        go_loop [0] (fun v => ∃ m : Nat, m ≤ l.length ∧ v = .string (txt (l.take m)) ∧ Hid (Bt.trim (l.take m) = Bt.trim l)) (fun v => match v with | .string s => s.size | _ => 0)
        case atStart => exact ⟨l.length, Nat.le_refl _, by rw [List.take_length], by show _ = _; rw [List.take_length]⟩
        case round =>
          obtain ⟨m, hm, rfl, HT⟩ := hrel
          have hll := HLL.out
          rcases Nat.eq_zero_or_pos m with hm0 | hm0
          · subst hm0
            have HE2 : Hid (Bt.trim l = []) := by show _ = _; rw [← HT.out]; rfl
            have hz : (txt (l.take 0)).size = 0 := by rw [txt_size]; rfl
            have HR : Hid (txt (l.take 0) = txt []) := rfl
            go_wp2
            go_ret
            unfold RWP
            rw [HE.out, HE2.out]
            exact ⟨rfl, HW.out⟩
          · obtain ⟨j, rfl⟩ : ∃ j, m = j + 1 := ⟨m - 1, by omega⟩
            have hjl : j < l.length := by omega
            obtain ⟨S, hS, hsz, hv, hx⟩ := txt_part l j hjl
            rw [← hS]
            have HS := Lib.hid hS
            have HX := Lib.hid hx
            clear hS hx
            have e1 : ((j + 1 : Nat) : Int) - 1 = (j : Int) := by omega
            have HRR : Hid (l[j].toNat ≠ 0 → Bt.trim l = l.take (j + 1)) := fun h => by
              rw [← HT.out]; exact take_trimmed hjl (fun e => h (by rw [e]; rfl))
            have HRZ : Hid (l[j].toNat = 0 → Bt.trim (l.take j) = Bt.trim l) := fun h => by
              rw [← HT.out]; exact (take_trim hjl (UInt8.toNat_inj.1 (by simpa using h))).symm
            have hby := l[j].toNat_lt
            generalize l[j].toNat = b at *
            by_cases hb0 : b = 0
            · subst hb0
              go_wp2
              rw [HX.out]
              go_round
              case rel => exact ⟨j, by omega, rfl, HRZ.out rfl⟩
              case measure => simp [txt_size]; omega
            · have hbb : ((b : Int) == 0) = false := by simp; omega
              go_wp2
              go_ret
              unfold RWP
              rw [HE.out, HRR.out hb0, ← HS.out]
              exact ⟨rfl, HW.out⟩
    · have HS := Lib.hid hs
      clear hs
      go_enter Tryd.func14, Tryd.ntmps14
      go_wp2_with fail
      go_loop [0] (fun v => ∃ d : Nat, d ≤ q + 1 - l.length ∧ v = .string (txt (l ++ List.replicate d 0))) (fun v => match v with | .string s => q + 1 - s.size | _ => 0)
      case atStart => exact ⟨0, Nat.zero_le _, by simp⟩
      case round =>
        obtain ⟨d, hdd, rfl⟩ := hrel
        have hsz : (txt (l ++ List.replicate d 0)).size = l.length + d := by rw [txt_size]; simp
        by_cases hmore : d < q + 1 - l.length
        · have hle : ((l.length + d : Nat) : Int) ≤ (q : Int) := by omega
          have HX : Hid (txt (l ++ List.replicate d 0) ++ (⟨#[0]⟩ : ByteArray) = txt (l ++ List.replicate (d + 1) 0)) := by
            show _ = _
            rw [show (⟨#[0]⟩ : ByteArray) = txt [0] from rfl, txt_append, List.append_assoc, List.replicate_succ']
          go_wp2
          rw [HX.out]
          go_round
          case rel => exact ⟨d + 1, by omega, rfl⟩
          case measure => simp [txt_size]; omega
        · have hp : l ++ List.replicate d 0 = Bt.pre l k true := by
            rw [show d = q + 1 - l.length by omega, HQK.out]; rfl
          rw [hp] at hsz ⊢
          obtain ⟨P, hP⟩ : ∃ P, P = Bt.pre l k true := ⟨_, rfl⟩
          rw [← hP] at hsz ⊢
          have HP := Lib.hid hP
          have HPZ : Hid ((txt P).size = P.length) := txt_size P
          have hpq : q < (txt P).size := by omega
          have hps : (txt P).size ≤ 400000 := by omega
          have hpd : decide ((txt P).size ≤ q) = false := by simp; omega
          clear hp hP hsz hmore hdd
          go_wp2_with fail
          clear hpd
          go_loop [7, 8] (fun x i => ∃ j : Nat, k % 8 ≤ j ∧ j ≤ 7 ∧ i = .int .i64 j ∧ x = .int .i64 ((2 ^ (j - k % 8) : Nat) : Int)) (fun _ i => 7 - (intOf i).toNat)
          case atStart => exact ⟨k % 8, Nat.le_refl _, by omega, by rfl, by simp⟩
          case round =>
            obtain ⟨j, hj1, hj2, rfl, rfl⟩ := hrel
            have hpw : 2 ^ (j - k % 8) ≤ 128 := by
              have := Nat.pow_le_pow_right (n := 2) (by omega) (show j - k % 8 ≤ 7 by omega)
              simpa using this
            by_cases hj7 : j < 7
            · have HPS : Hid (2 ^ (j + 1 - k % 8) = 2 ^ (j - k % 8) * 2) := by show _ = _; rw [show j + 1 - k % 8 = (j - k % 8) + 1 by omega, Nat.pow_succ]
              generalize 2 ^ (j - k % 8) = p at *
              go_wp2
              go_round
              case rel => exact ⟨j + 1, by omega, by omega, by go_num, by rw [HPS.out]; go_num⟩
              case measure => simp [intOf]; omega
            · have hje : j = 7 := by omega
              subst hje
              obtain ⟨x, hxP, hx, hxP2⟩ : ∃ x : UInt8, P[q]? = some x ∧ (∃ h : q < (txt P).size, ((txt P)[q]'h).toNat = x.toNat) ∧ Bt.has P k = x.toNat.testBit (7 - k % 8) := by
                have hql : q < P.length := by rw [← HPZ.out]; exact hpq
                refine ⟨P[q], by rw [List.getElem?_eq_getElem hql], ⟨hpq, rfl⟩, ?_⟩
                unfold Bt.has
                rw [← HQK.out, List.getD_eq_getElem?_getD, List.getElem?_eq_getElem hql, Option.getD_some]
              obtain ⟨hpq', hx'⟩ := hx
              have HCH := Lib.hid (Bt.chg_nat x (7 - k % 8) (by omega) true)
              have hxl := x.toNat_lt
              have hx256 : x.toNat < 256 := hxl
              have HXL := Lib.hid hxl
              have HBIT : Hid (if x.toNat.testBit (7 - k % 8) then 2 ^ (7 - k % 8) ≤ x.toNat else x.toNat + 2 ^ (7 - k % 8) < 256) := by
                have h1 := (Bt.chg_all ⟨x.toNat, hxl⟩ ⟨7 - k % 8, by omega⟩ true ⟨0, by omega⟩).2
                show if _ then _ else _
                cases hc : x.toNat.testBit (7 - k % 8)
                · simp [hc] at h1 ⊢; exact h1
                · simp; exact Nat.ge_two_pow_of_testBit hc
              clear hxl
              have HH := Lib.hid hxP2
              have HXP := Lib.hid hxP
              have HXQ := Lib.hid hx'
              have HSP : Hid (Bt.put l k true = P.take q ++ (Bt.chg x (7 - k % 8) true :: P.drop (q + 1))) := by
                show _ = _
                unfold Bt.put
                rw [← HP.out, ← HQK.out, List.getD_eq_getElem?_getD, hxP, Option.getD_some, List.set_eq_take_append_cons_drop, if_pos (by rw [← HPZ.out]; exact hpq)]
              clear hxP2 hxP hx'
              have hby : ((txt P)[q]'hpq').toNat < 256 := ((txt P)[q]'hpq').toNat_lt
              go_wp2_with fail
              rw [HXQ.out]
              refine (refHas_any P k w (by omega) (by rw [← HPZ.out]; omega)).mono ?_
              rintro e w2 ⟨rfl, rfl⟩
              rw [Bt.hasI_nat, HH.out]
              have HPW : Hid ((2 : Int) ^ (7 - k % 8) = ((2 ^ (7 - k % 8) : Nat) : Int)) := by show _ = _; simp
              rw [HPW.out]
              clear hby HXQ HXP HXL HPW
              cases hc : x.toNat.testBit (7 - k % 8)
              all_goals
                have hbt := HBIT.out
                have hch := HCH.out
                rw [hc] at hbt hch
                simp only [if_true, Bool.false_eq_true, if_false] at hbt hch
                have HC := Lib.hid hch
                clear hch hc HBIT HCH HH
                generalize x.toNat = b at *
                generalize 2 ^ (7 - k % 8) = p at *
                go_upto_region 15 with (fail)
                generalize Bt.chg x (7 - k % 8) true = z at *
                have hzl := z.toNat_lt
                have hz256 : (z.toNat : Int) < 256 := by omega
                first
                  | (have HY : Hid ((b : Int) + (p : Int) = (z.toNat : Int)) := by { show _ = _; have := HC.out; omega }
                     rw [HY.out])
                  | (have HY : Hid ((b : Int) = (z.toNat : Int)) := by { show _ = _; have := HC.out; omega }
                     rw [HY.out])
                clear hzl
                have hq1 : ((q : Int) + 1) ≤ ((txt P).size : Int) := by omega
                have hq0 : (q : Int) ≤ ((txt P).size : Int) := by omega
                have hwq : IntKind.i64.wrap (q : Int) = (q : Int) := IntWalk.i64_in _ (by omega)
                have hwq1 : IntKind.i64.wrap ((q : Int) + 1) = (q : Int) + 1 := IntWalk.i64_in _ (by omega)
                have hkq : Int.tdiv (k : Int) 8 = (q : Int) := by rw [Int.tdiv_eq_ediv_of_nonneg (by omega)]; exact hq
                have hq1n : ((q : Int) + 1).toNat = q + 1 := by omega
                have hwz : IntKind.u8.wrap (z.toNat : Int) = (z.toNat : Int) := by rw [IntKind.wrap_u8]; omega
                refine wp_region_held_drew (S := fun _ => True) (by kernel_rfl) trivial (fun HS0 => ?_)
                have HS := Lib.hid HS0
                change wpAnyH _ _ _ _ _ 16 (Array.replicate 16 false) _ _
                refine takeH (i := 0) 62 (.string (txt P)) rfl rfl (by kernel_rfl) (by kernel_rfl) (by kernel_rfl) (fun _ _ _ h => h) (.inl ⟨by rfl, fun W hW => by go_simp⟩) HS.out ?_
                simp only [Act.put, List.setIfInBounds_toArray, List.set_cons_zero, List.set_cons_succ]
                refine takeH (i := 1) 63 (.int .i64 (k : Int)) rfl rfl (by kernel_rfl) (by kernel_rfl) (by kernel_rfl) (fun _ _ _ h => h) (.inl ⟨by rfl, fun W hW => by go_simp⟩) HS.out ?_
                simp only [Act.put, List.setIfInBounds_toArray, List.set_cons_zero, List.set_cons_succ]
                refine takeH (i := 2) 64 (.int .i64 (q : Int)) rfl rfl (by kernel_rfl) (by kernel_rfl) (by kernel_rfl) (fun _ _ _ h => h) (.inl ⟨by rfl, fun W hW => by go_simp⟩) HS.out ?_
                simp only [Act.put, List.setIfInBounds_toArray, List.set_cons_zero, List.set_cons_succ]
                refine takeH (i := 3) 65 (.string ((txt P).extract 0 q)) rfl rfl (by kernel_rfl) (by kernel_rfl) (by kernel_rfl) (fun _ _ _ h => h) (.inl ⟨by rfl, fun W hW => by go_simp⟩) HS.out ?_
                simp only [Act.put, List.setIfInBounds_toArray, List.set_cons_zero, List.set_cons_succ]
                refine takeH (i := 4) 66 (.int .i64 (z.toNat : Int)) rfl rfl (by kernel_rfl) (by kernel_rfl) (by kernel_rfl) (fun _ _ _ h => h) (.inl ⟨by rfl, fun W hW => by go_simp⟩) HS.out ?_
                simp only [Act.put, List.setIfInBounds_toArray, List.set_cons_zero, List.set_cons_succ]
                refine takeH (i := 5) 67 (.int .u8 (z.toNat : Int)) rfl rfl (by kernel_rfl) (by kernel_rfl) (by kernel_rfl) (fun _ _ _ h => h) (.inl ⟨by rfl, fun W hW => by go_simp⟩) HS.out ?_
                simp only [Act.put, List.setIfInBounds_toArray, List.set_cons_zero, List.set_cons_succ]
                refine takeH (i := 9) 71 (.string (txt P)) rfl rfl (by kernel_rfl) (by kernel_rfl) (by kernel_rfl) (fun _ _ _ h => h) (.inl ⟨by rfl, fun W hW => by go_simp⟩) HS.out ?_
                simp only [Act.put, List.setIfInBounds_toArray, List.set_cons_zero, List.set_cons_succ]
                refine takeH (i := 10) 72 (.int .i64 (k : Int)) rfl rfl (by kernel_rfl) (by kernel_rfl) (by kernel_rfl) (fun _ _ _ h => h) (.inl ⟨by rfl, fun W hW => by go_simp⟩) HS.out ?_
                simp only [Act.put, List.setIfInBounds_toArray, List.set_cons_zero, List.set_cons_succ]
                refine takeH (i := 11) 73 (.int .i64 (q : Int)) rfl rfl (by kernel_rfl) (by kernel_rfl) (by kernel_rfl) (fun _ _ _ h => h) (.inl ⟨by rfl, fun W hW => by go_simp⟩) HS.out ?_
                simp only [Act.put, List.setIfInBounds_toArray, List.set_cons_zero, List.set_cons_succ]
                refine takeH (i := 12) 74 (.int .i64 ((q : Int) + 1)) rfl rfl (by kernel_rfl) (by kernel_rfl) (by kernel_rfl) (fun _ _ _ h => h) (.inl ⟨by rfl, fun W hW => by go_simp⟩) HS.out ?_
                simp only [Act.put, List.setIfInBounds_toArray, List.set_cons_zero, List.set_cons_succ]
                refine takeH (i := 13) 75 (.string ((txt P).extract (q + 1) (txt P).size)) rfl rfl (by kernel_rfl) (by kernel_rfl) (by kernel_rfl) (fun _ _ _ h => h) (.inl ⟨by rfl, fun W hW => by (go_simp; (intro h; omega))⟩) HS.out ?_
                simp only [Act.put, List.setIfInBounds_toArray, List.set_cons_zero, List.set_cons_succ]
                refine wpAnyH_ready (rs := [6]) (by kernel_rfl) (by simp) ?_
                refine AllReadyH.cons rfl (fun K hK => ?_) AllReadyH.nil
                go_simp
                refine hK.out _ _ trivial fun _ => ?_
                clear hK K
                have HTK : Hid ((txt P).extract 0 q = txt (P.take q)) := txt_take P q
                have HDR : Hid ((txt P).extract (q + 1) (txt P).size = txt (P.drop (q + 1))) := by show _ = _; rw [HPZ.out]; exact txt_drop P (q + 1)
                rw [HTK.out, HDR.out]
                have HW : Hid (Below w.heap.size w ((w.alloc (.cells #[.int .u8 (z.toNat : Int)] 5)).drew)) := ((Below.refl _ _).alloc (Nat.le_refl _) _).drew
                have v := run_convert_bs ((w.alloc (.cells #[.int .u8 (z.toNat : Int)] 5)).drew) (some ⟨w.heap.size, 0, none⟩) 1 1 [z] (BS.of_block (heap_alloc_new w _)).drew
                have hsz1 : ¬ 9223372036854775807 < (txt (P.take q)).size + (txt [z]).size := by rw [txt_size, txt_size, List.length_take]; simp; have := HPZ.out; omega
                have HL2 : Hid ((P.take q ++ [z]).length ≤ 500000) := by show _ ≤ _; rw [List.length_append, List.length_take]; simp; have := HPZ.out; omega
                have hsz2 : ¬ 9223372036854775807 < (txt (P.take q ++ [z])).size + (txt (P.drop (q + 1))).size := by rw [txt_size, txt_size, List.length_drop]; have := HPZ.out; have := HL2.out; omega
                have HA1 := Lib.hid (txt_append (P.take q) [z])
                have HA2 := Lib.hid (txt_append (P.take q ++ [z]) (P.drop (q + 1)))
                refine wpAnyH_ready (rs := [7]) (by kernel_rfl) (by simp) ?_
                refine AllReadyH.cons rfl (fun K hK => ?_) AllReadyH.nil
                go_simp
                refine hK.out _ _ trivial fun _ => ?_
                clear hK K v
                refine takeH (i := 8) 70 (.string (txt (P.take q) ++ txt [z])) rfl rfl (by kernel_rfl) (by kernel_rfl) (by kernel_rfl) (fun _ _ _ h => h) (.inl ⟨by rfl, fun W hW => by go_simp⟩) HS.out ?_
                simp only [Act.put, List.setIfInBounds_toArray, List.set_cons_zero, List.set_cons_succ]
                rw [HA1.out]
                refine takeH (i := 14) 76 (.string (txt (P.take q ++ [z]) ++ txt (P.drop (q + 1)))) rfl rfl (by kernel_rfl) (by kernel_rfl) (by kernel_rfl) (fun _ _ _ h => h) (.inl ⟨by rfl, fun W hW => by go_simp⟩) HS.out ?_
                simp only [Act.put, List.setIfInBounds_toArray, List.set_cons_zero, List.set_cons_succ]
                rw [HA2.out, show P.take q ++ [z] ++ P.drop (q + 1) = P.take q ++ (z :: P.drop (q + 1)) by simp, ← HSP.out]
                refine takeH (i := 15) 0 (.string (txt (Bt.put l k true))) rfl rfl (by kernel_rfl) (by kernel_rfl) (by kernel_rfl) (fun _ _ _ h => h) (.inl ⟨by rfl, fun W hW => by go_simp⟩) HS.out ?_
                simp only [Act.put, List.setIfInBounds_toArray, List.set_cons_zero]
                refine wpAnyH_done (by kernel_rfl) ?_ _
                have HE : Hid (Bt.witI l (k : Int) true = Bt.trim (Bt.put l k true)) := HWT.out
                have HLL : Hid ((Bt.put l k true).length ≤ 500000) := by show _ ≤ _; rw [HSP.out, List.length_append, List.length_cons, List.length_take, List.length_drop]; have := HPZ.out; omega
                clear HSP HA1 HA2 hsz1 hsz2 HTK HDR HL2
                generalize Bt.put l k true = L at *
                generalize (w.alloc (.cells #[.int .u8 (z.toNat : Int)] 5)).drew = w4 at *
                go_wp2_with fail
                clear hd0 hi hl hq1 hq0 hwq hwq1 hkq hq1n hwz hpq hpq' hps hbt hpw hx256 hz256 hq hql
                go_loop [0] (fun v => ∃ m : Nat, m ≤ L.length ∧ v = .string (txt (L.take m)) ∧ Hid (Bt.trim (L.take m) = Bt.trim L)) (fun v => match v with | .string s => s.size | _ => 0)
                case atStart => exact ⟨L.length, Nat.le_refl _, by rw [List.take_length], by show _ = _; rw [List.take_length]⟩
                case round =>
                  obtain ⟨m, hm, rfl, HT⟩ := hrel
                  have hll := HLL.out
                  rcases Nat.eq_zero_or_pos m with hm0 | hm0
                  · subst hm0
                    have HE2 : Hid (Bt.trim L = []) := by show _ = _; rw [← HT.out]; rfl
                    have hz : (txt (L.take 0)).size = 0 := by rw [txt_size]; rfl
                    have HR : Hid (txt (L.take 0) = txt []) := rfl
                    go_wp2
                    go_ret
                    unfold RWP
                    rw [HE.out, HE2.out]
                    exact ⟨rfl, HW.out⟩
                  · obtain ⟨j, rfl⟩ : ∃ j, m = j + 1 := ⟨m - 1, by omega⟩
                    have hjl : j < L.length := by omega
                    obtain ⟨S, hS, hsz, hv, hx⟩ := txt_part L j hjl
                    rw [← hS]
                    have HS := Lib.hid hS
                    have HX := Lib.hid hx
                    clear hS hx
                    have e1 : ((j + 1 : Nat) : Int) - 1 = (j : Int) := by omega
                    have HRR : Hid (L[j].toNat ≠ 0 → Bt.trim L = L.take (j + 1)) := fun h => by
                      rw [← HT.out]; exact take_trimmed hjl (fun e => h (by rw [e]; rfl))
                    have HRZ : Hid (L[j].toNat = 0 → Bt.trim (L.take j) = Bt.trim L) := fun h => by
                      rw [← HT.out]; exact (take_trim hjl (UInt8.toNat_inj.1 (by simpa using h))).symm
                    have hby := L[j].toNat_lt
                    generalize L[j].toNat = b at *
                    by_cases hb0 : b = 0
                    · subst hb0
                      go_wp2
                      rw [HX.out]
                      go_round
                      case rel => exact ⟨j, by omega, rfl, HRZ.out rfl⟩
                      case measure => simp [txt_size]; omega
                    · have hbb : ((b : Int) == 0) = false := by simp; omega
                      go_wp2
                      go_ret
                      unfold RWP
                      rw [HE.out, HRR.out hb0, ← HS.out]
                      exact ⟨rfl, HW.out⟩
          
end Go.Proofs.YtkodjojidoigiaaDoor
