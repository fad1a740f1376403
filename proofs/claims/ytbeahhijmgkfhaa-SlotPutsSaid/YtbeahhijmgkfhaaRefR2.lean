
/-
  Contract of the document's ReadOpaque.
-/
import Derived.Test.YtbeahhijmgkfhaaRefR
namespace Go.Proofs.Ytbeahhijmgkfhaa
open Go.RowKit

theorem rdN4_lt (s : St) : (rdN 4 s).2 < 4294967296 := by
  unfold rdN
  split
  · simp
  · split
    · simp
    · simp only
      have h1 := num_lt (s.1.take 4)
      have h2 : (s.1.take 4).length ≤ 4 := by rw [List.length_take]; omega
      have := Nat.pow_le_pow_right (n := 256) (by omega) h2
      omega

set_option maxRecDepth 100000 in
set_option maxHeartbeats 2000000 in
theorem refReadOpaque (l : List UInt8) (e most : Int) (w : World) (hm0 : -9223372036854775808 ≤ most) (hm1 : most ≤ 9223372036854775807) :
    Calls Try.prog 50 #[RV l e, .int .i64 most] w fun en w' => en = .returned (.tuple #[RV (rdO most (l, e)).1.1 (rdO most (l, e)).1.2, .string (txt (rdO most (l, e)).2)]) ∧ Below w.heap.size w w' := by
  have HC := Lib.hid (fun W => refRead32 l e W)
  have hx32 := rdN4_lt (l, e)
  generalize hro : rdO most (l, e) = ro at *
  unfold rdO at hro
  generalize rdN 4 (l, e) = r at *
  obtain ⟨⟨l', e'⟩, x⟩ := r
  simp only at hro hx32
  have Hro := Lib.hid hro
  clear hro
  unfold RV at *
  have hd1 : most < 0 ∨ 0 ≤ most := by omega
  go_enter Try.func50, Try.ntmps50
  go_wp2_with fail
  refine (HC.out _).mono ?_
  rintro en w1 ⟨rfl, hb1⟩
  obtain ⟨t1, t2, hbb⟩ := two_new hb1
  have T1 := Lib.hid t1
  have T2 := Lib.hid t2
  have HB1 := Lib.hid hbb
  have c0 := t1.c0
  have c1 := t1.c1
  have f0 := t1.fr 0
  have f1 := t1.fr 1
  clear t1 t2 hbb hb1 HC
  go_upto_region 2 with (fail)
  have T1' : Hid (Two ((w1.setCell ⟨w.heap.size, 0, none⟩ (.string (txt l'))).setCell ⟨w.heap.size, 1, none⟩ (.int .i64 e')) w.heap.size (.string (txt l')) (.int .i64 e')) := T1.out.set2
  have T2' : Hid (Two ((w1.setCell ⟨w.heap.size, 0, none⟩ (.string (txt l'))).setCell ⟨w.heap.size, 1, none⟩ (.int .i64 e')) (w.heap.size + 1) _ _) := (T2.out.far (by simp)).far (by simp)
  have HB2 : Hid (Below w.heap.size w ((w1.setCell ⟨w.heap.size, 0, none⟩ (.string (txt l'))).setCell ⟨w.heap.size, 1, none⟩ (.int .i64 e'))) := (HB1.out.setCell (by simp) _).setCell (by simp) _
  clear c0 c1 f0 f1 T1 T2 HB1
  generalize (w1.setCell ⟨w.heap.size, 0, none⟩ (.string (txt l'))).setCell ⟨w.heap.size, 1, none⟩ (.int .i64 e') = w2 at *
  have d0 := T1'.out.c0
  have d1 := T1'.out.c1
  have f0 := T1'.out.fr 0
  have f1 := T1'.out.fr 1
  have g0 := T2'.out.c0
  have g1 := T2'.out.c1
  have m0 := T2'.out.fr 0
  have m1 := T2'.out.fr 1
  by_cases he : e' = 0
  · subst he
    have hro := Hro.out
    rw [if_neg (by simp)] at hro
    by_cases hb : most < 0 ∨ most < (x : Int)
    · rw [if_pos hb] at hro
      subst hro
      rcases hd1 with hneg | hpos
      · have hd : decide (most < 0) = true := by simp [hneg]
        clear hb
        go_wp2_with fail
        refine bodyPost_ret (v := .tuple #[.agg #[.string (txt l'), .int .i64 13], .string (txt [])]) (by simp [results, Try.results50, go_sem, g0, g1, txt]) rfl ⟨rfl, ?_⟩
        repeat (first | exact HB2.out | refine Below.setCell ?_ (by simp) _)
      · have hmx : most < (x : Int) := by omega
        clear hb
        have hd : decide (most < 0) = false := by simp [hpos]
        have hdx : decide (most < (x : Int)) = true := by simp [hmx]
        have wm : IntKind.u64.wrap most = most := by rw [IntKind.wrap_u64]; omega
        have wx : IntKind.u64.wrap (x : Int) = (x : Int) := by rw [IntKind.wrap_u64]; omega
        go_wp2_with fail
        refine bodyPost_ret (v := .tuple #[.agg #[.string (txt l'), .int .i64 13], .string (txt [])]) (by simp [results, Try.results50, go_sem, g0, g1, txt]) rfl ⟨rfl, ?_⟩
        repeat (first | exact HB2.out | refine Below.setCell ?_ (by simp) _)
    · rw [if_neg hb] at hro
      have hmx : (x : Int) ≤ most := by omega
      have hm0' : 0 ≤ most := by omega
      clear hb hd1
      have hd : decide (most < 0) = false := by simp [hm0']
      have hdx : decide (most < (x : Int)) = false := by simp [hmx]
      have wm : IntKind.u64.wrap most = most := by rw [IntKind.wrap_u64]; omega
      have wx : IntKind.u64.wrap (x : Int) = (x : Int) := by rw [IntKind.wrap_u64]; omega
      have wx' : IntKind.i64.wrap (x : Int) = (x : Int) := by rw [IntKind.wrap_i64]; omega
      have Hro2 := Lib.hid hro
      clear hro Hro
      go_wp2_with fail
      clear wm wx wx' hd hdx
      have hp4 := pad_lt x
      have Hpm : Hid ((x + pad x) % 4 = 0) := by show _ = _; unfold pad; omega
      generalize hp : pad x = p at *
      have Hp := Lib.hid hp
      clear hp
      go_loop [8] (fun a => ∃ k : Nat, k ≤ p ∧ a = .int .i64 ((x : Int) + (k : Int))) (fun a => x + p - (intOf a).toNat)
      case atStart => exact ⟨0, by omega, by simp⟩
      case round =>
        obtain ⟨k, hk, rfl⟩ := hrel
        by_cases hlt : k < p
        · have ht : (((x : Int) + (k : Int)) % 4 != 0) = true := by rw [bne_iff_ne]; have := Hpm.out; omega
          go_wp2_with fail
          refine ⟨⟨k + 1, by omega, ?_⟩, by simp [intOf]; omega⟩
          exact congrArg (Value.int .i64) (by omega)
        · have hkp : k = p := by omega
          subst hkp
          have ht : (((x : Int) + (k : Int)) % 4 != 0) = false := by simp; have := Hpm.out; omega
          go_wp2_with fail
          have hxk : ((x : Int) + (k : Int)) = ((x + k : Nat) : Int) := by omega
          rw [hxk]
          clear hxk ht hlt hk
          refine (refRaw l' 0 (x + k) w2 (by omega)).mono ?_
          have Hraw : Hid (rdRaw (x + k) (l', 0) = if l'.length < x + k then ((l', 10), []) else ((l'.drop (x + k), 0), l'.take (x + k))) := by show _ = _; unfold rdRaw; simp
          rw [Hraw.out]
          clear Hraw
          by_cases hsh : l'.length < x + k
          · rw [if_pos hsh]
            have hro := Hro2.out
            rw [if_pos hsh] at hro
            subst hro
            rintro en w3 ⟨rfl, hb3⟩
            have T13 := Lib.hid (T1'.out.below hb3 T1'.out.lt)
            have T23 := Lib.hid (T2'.out.below hb3 T2'.out.lt)
            have HB3 := Lib.hid (HB2.out.trans (hb3.mono HB2.out.size))
            clear hb3 d0 d1 f0 f1 g0 g1 m0 m1 T1' T2' HB2 Hro2
            have d0 := T13.out.c0
            have d1 := T13.out.c1
            have f0 := T13.out.fr 0
            have f1 := T13.out.fr 1
            have g0 := T23.out.c0
            have g1 := T23.out.c1
            have m0 := T23.out.fr 0
            have m1 := T23.out.fr 1
            unfold RV
            go_wp2_with fail
            refine bodyPost_ret (v := .tuple #[.agg #[.string (txt l'), .int .i64 10], .string (txt [])]) (by simp [results, Try.results50, go_sem, g0, g1, txt]) rfl ⟨rfl, ?_⟩
            repeat (first | exact HB3.out | refine Below.setCell ?_ (by simp) _)
          · rw [if_neg hsh]
            have hro := Hro2.out
            rw [if_neg hsh] at hro
            rintro en w3 ⟨rfl, hb3⟩
            have Hro3 := Lib.hid hro
            have T13 := Lib.hid (T1'.out.below hb3 T1'.out.lt)
            have T23 := Lib.hid (T2'.out.below hb3 T2'.out.lt)
            have HB3 := Lib.hid (HB2.out.trans (hb3.mono HB2.out.size))
            clear hb3 d0 d1 f0 f1 g0 g1 m0 m1 T1' T2' HB2 Hro2 hro
            have d0 := T13.out.c0
            have d1 := T13.out.c1
            have f0 := T13.out.fr 0
            have f1 := T13.out.fr 1
            unfold RV
            have Hst : Hid ((l'.take (x + k)).length = x + k) := by show _ = _; rw [List.length_take]; omega
            have Htk : Hid ((l'.take (x + k)).take x = l'.take x) := by show _ = _; rw [List.take_take]; congr 1; omega
            have Hpd : Hid ((l'.take (x + k)).drop x = (l'.drop x).take k) := by show _ = _; rw [List.drop_take]; congr 1; omega
            generalize l'.drop (x + k) = l2 at *
            generalize l'.take (x + k) = s at *
            go_upto_region 12 with (fail)
            have T1' : Hid (Two ((w3.setCell ⟨w.heap.size, 0, none⟩ (.string (txt l2))).setCell ⟨w.heap.size, 1, none⟩ (.int .i64 0)) w.heap.size (.string (txt l2)) (.int .i64 0)) := T13.out.set2
            have T2' : Hid (Two ((w3.setCell ⟨w.heap.size, 0, none⟩ (.string (txt l2))).setCell ⟨w.heap.size, 1, none⟩ (.int .i64 0)) (w.heap.size + 1) _ _) := (T23.out.far (by simp)).far (by simp)
            have HB2 : Hid (Below w.heap.size w ((w3.setCell ⟨w.heap.size, 0, none⟩ (.string (txt l2))).setCell ⟨w.heap.size, 1, none⟩ (.int .i64 0))) := (HB3.out.setCell (by simp) _).setCell (by simp) _
            clear d0 d1 f0 f1 T13 T23 HB3
            generalize (w3.setCell ⟨w.heap.size, 0, none⟩ (.string (txt l2))).setCell ⟨w.heap.size, 1, none⟩ (.int .i64 0) = w4 at *
            have d0 := T1'.out.c0
            have d1 := T1'.out.c1
            have f0 := T1'.out.fr 0
            have f1 := T1'.out.fr 1
            have g0 := T2'.out.c0
            have g1 := T2'.out.c1
            have m0 := T2'.out.fr 0
            have m1 := T2'.out.fr 1
            have hss : (txt s).size = x + k := by rw [txt_size, Hst.out]
            go_wp2_with fail
            go_loop [10] (fun i => ∃ j : Nat, j ≤ k ∧ i = .int .i64 ((x : Int) + (j : Int)) ∧ Hid (noughts ((s.drop x).take j) = true)) (fun i => x + k - (intOf i).toNat)
            case atStart => exact ⟨0, by omega, by simp, rfl⟩
            case round =>
              obtain ⟨j, hj, rfl, HN⟩ := hrel
              by_cases hlt : j < k
              · have hjs : x + j < (txt s).size := by rw [hss]; omega
                have hjd : j < (s.drop x).length := by rw [List.length_drop, Hst.out]; omega
                have hi0 : ((x : Int) + (j : Int)).toNat = x + j := by omega
                have hget : ((txt s)[x + j]'hjs).toNat = ((s.drop x)[j]'hjd).toNat := by rw [txt_get, List.getElem_drop]
                by_cases hz : (s.drop x)[j] = 0
                · have hz1 : (((txt s)[x + j]'hjs).toNat : Int) = 0 := by rw [hget, hz]; rfl
                  have hz2 : ((((txt s)[x + j]'hjs).toNat : Int) != 0) = false := by rw [hz1]; rfl
                  have HN2 : Hid (noughts ((s.drop x).take (j + 1)) = true) := by
                    show noughts _ = true
                    have := HN.out
                    unfold noughts at *
                    rw [List.take_succ_eq_append_getElem hjd, List.all_append, this, hz]
                    rfl
                  clear hz hz1 hget
                  go_wp2_with fail
                  refine ⟨⟨j + 1, by omega, ?_, HN2⟩, by simp [intOf]; omega⟩
                  exact congrArg (Value.int .i64) (by omega)
                · have hz2 : ((((txt s)[x + j]'hjs).toNat : Int) != 0) = true := by
                    rw [bne_iff_ne, hget]
                    intro h
                    exact hz (UInt8.toNat_inj.1 (by simpa using h))
                  have HZ : Hid (noughts (s.drop x) = false) := by
                    show noughts _ = false
                    unfold noughts
                    rw [List.all_eq_false]
                    exact ⟨_, List.getElem_mem hjd, by simpa using hz⟩
                  have hro := Hro3.out
                  rw [← Hpd.out, HZ.out, if_neg (by simp)] at hro
                  subst hro
                  clear hz hget
                  go_wp2_with fail
                  refine bodyPost_ret (v := .tuple #[.agg #[.string (txt l2), .int .i64 11], .string (txt [])]) (by simp [results, Try.results50, go_sem, g0, g1, txt]) rfl ⟨rfl, ?_⟩
                  repeat (first | exact HB2.out | refine Below.setCell ?_ (by simp) _)
              · have hjk : j = k := by omega
                have hN := HN.out
                rw [List.take_of_length_le (by rw [List.length_drop, Hst.out]; omega)] at hN
                have hro := Hro3.out
                rw [← Hpd.out, hN, if_pos rfl] at hro
                subst hro
                have x1 : (txt s).extract 0 x = txt (l'.take x) := by rw [txt_take, Htk.out]
                have b0 : (0 : Int) ≤ (x : Int) := by omega
                obtain ⟨N, hNk⟩ : ∃ N, N = x + k := ⟨_, rfl⟩
                rw [← hNk] at hss
                have b1 : (x : Int) ≤ (N : Int) := by omega
                have b2 : x ≤ N := by omega
                clear hN hjk HN
                have HNk := Lib.hid hNk
                clear hNk
                go_wp2_with fail
                go_region_held3 (fun W => W.cell? ⟨w.heap.size, 0, none⟩ = some (.string (txt l2)) ∧ W.cell? ⟨w.heap.size, 1, none⟩ = some (.int .i64 0))
                  (first | go_keep | exact ⟨d0, d1⟩)
                  (first | (fail))
                go_wp2_with fail
                refine bodyPost_ret (v := .tuple #[.agg #[.string (txt l2), .int .i64 0], .string (txt (l'.take x))]) (by simp [results, Try.results50, go_sem, g0, g1]) rfl ⟨rfl, ?_⟩
                repeat (first | exact HB2.out | refine Below.setCell ?_ (by simp) _ | refine Below.drew ?_)
  · have hro := Hro.out
    rw [if_pos he] at hro
    subst hro
    have he' : (e' != 0) = true := by simp [he]
    clear he
    go_wp2_with fail
    refine bodyPost_ret (v := .tuple #[.agg #[.string (txt l'), .int .i64 e'], .string (txt [])]) (by simp [results, Try.results50, go_sem, g0, g1, txt]) rfl ⟨rfl, ?_⟩
    repeat (first | exact HB2.out | refine Below.setCell ?_ (by simp) _)
end Go.Proofs.Ytbeahhijmgkfhaa
