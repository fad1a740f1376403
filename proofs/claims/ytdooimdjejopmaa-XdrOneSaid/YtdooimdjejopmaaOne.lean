/-
  The walk of XdrOne: what Opaque of a Reader reads is just what Opaque of a Writer puts for it: the law's function returns true for every input.
-/
import Derived.Test.YtdooimdjejopmaaRow3
namespace Go.Proofs.Ytdooimdjejopmaa
open Go.RowKit

theorem left_quiet (w : World) (q : Nat) (l : List UInt8) (e : Int) (n : Nat) (h : Rd w q l e) :
    Calls Try.prog 34 #[.pointer (some ⟨q, 0, none⟩)] (w.drewN n) fun en w' => en = .returned (.int .i64 l.length) ∧ ∃ m, w' = w.drewN m :=
  (left_any (w.drewN n) q l e h).mono fun _ _ ⟨h1, h2⟩ => ⟨h1, n, h2.symm⟩

set_option maxRecDepth 100000 in
set_option maxHeartbeats 4000000 in
theorem one_walk (A : Option Addr) (n c : Nat) (b : List UInt8) (w : World) (hb : BS w A n b) (hnc : n ≤ c) :
    Calls Try.prog 6 #[.slice A n c] w fun e w' => e = .returned (.bool true) ∧ Below w.heap.size w w' := by
  have HA := Lib.hid (awake_any w)
  have HB := Lib.hid hb
  have Hn : Hid (b.length = n) := hb.1
  clear hb
  by_cases h100 : 100 < n
  · go_enter Try.func6, Try.ntmps6
    have hd : decide ((100 : Int) < (n : Int)) = true := by simp; omega
    go_wp2_with fail
    refine HA.out.mono ?_
    rintro e w1 ⟨rfl, hw1⟩
    have HW1 := Lib.hid hw1
    clear hw1
    go_wp2_with fail
    go_ret
    exact ⟨rfl, HW1.out⟩
  · go_enter Try.func6, Try.ntmps6
    have hd : decide ((100 : Int) < (n : Int)) = false := by simp; omega
    go_wp2_with fail
    refine HA.out.mono ?_
    rintro e w1 ⟨rfl, hw1⟩
    have HW1 := Lib.hid hw1
    have hs1 := hw1.size
    clear hw1
    go_wp2_with fail
    refine (newReader_any A n c b w1 (HB.out.below HW1.out) (by omega)).mono ?_
    rintro e w2 ⟨q, rfl, hr, hbe, hq⟩
    have HR := Lib.hid hr
    have HK : Hid (Keep (· < w.heap.size) w w2) := (Keep.of_below HW1.out).trans ((Keep.of_below hbe).mono (fun k h => Nat.lt_of_lt_of_le h HW1.out.size))
    have hq0 : w.heap.size ≤ q := Nat.le_trans HW1.out.size hq
    clear hr hbe HW1 hq HA
    go_wp2_with fail
    refine (opaquer w2 q b 0 1000 (by omega) (by omega) HR.out).mono ?_
    have Hone := Lib.hid (rdO_one 1000 b)
    have Hnil := Lib.hid (rdO_nil 1000 (b, 0))
    have Hlen := Lib.hid (rdO_len 1000 (b, 0))
    generalize rdO 1000 (b, 0) = ro at *
    obtain ⟨⟨l', e'⟩, o⟩ := ro
    rintro e w3 ⟨A3, c3, rfl, hbs, hr, hg, hA⟩
    have HR3 := Lib.hid hr
    have HK3 := Lib.hid (HK.out.grown hg (fun k h => Nat.lt_of_lt_of_le h HK.out.size) (fun k h h' => by injection h with h; omega))
    have HC3 := Lib.hid hbs
    clear hbs hr hg hA HR HK
    by_cases he : e' = 0
    · subst he
      have hone := Hone.out rfl
      simp only at hone
      have Hone2 := Lib.hid hone
      have hlo : (opq o).length ≤ n := by rw [← Hn.out, hone, List.length_append]; omega
      have hll : n - (opq o).length = l'.length := by rw [← Hn.out, hone, List.length_append]; omega
      have Hll := Lib.hid hll
      have Htk : Hid (b.take (opq o).length = opq o) := by
        show _ = _
        rw [hone, List.take_append_of_le_length (Nat.le_refl _), List.take_of_length_le (Nat.le_refl _)]
      have hol : o.length ≤ 100 := by have := opq_length o; omega
      clear hone Hone Hnil Hlen hll
      go_wp2_with fail
      refine (err_any w3 q l' 0 HR3.out).mono ?_
      rintro e w4 ⟨rfl, rfl⟩
      go_wp2_with fail
      refine (newWriter_op w3).mono ?_
      rintro e w4 ⟨p, rfl, hw, hbe⟩
      have HW4 := Lib.hid hw
      have HB4 := Lib.hid hbe
      clear hw hbe
      go_wp2_with fail
      refine (opaquew _ w4 p [] A3 o.length c3 o HW4.out (HC3.out.below HB4.out) (fun h ad ha => HC3.out.lt_block h ad ha) (by simp) (by omega)).mono ?_
      rintro e w5 ⟨rfl, hw, hk⟩
      rw [List.nil_append] at hw
      have HW5 := Lib.hid hw
      have HB5 := Lib.hid (HB4.out.trans hk.below)
      clear hw hk HW4 HB4
      go_wp2_with fail
      refine (out_any _ w5 p _ HW5.out (by omega)).mono ?_
      rintro e w6 ⟨A6, c6, rfl, ho⟩
      have HO6 := Lib.hid ho.bs
      have HB6 := Lib.hid (HB5.out.trans (ho.2.mono HB5.out.size))
      have HR6 := Lib.hid (HR3.out.kept HB6.out)
      have HK6 := Lib.hid (HK3.out.trans ((Keep.of_below HB6.out).mono (fun k h => Nat.lt_of_lt_of_le h HK3.out.size)))
      clear ho HW5 HB5
      generalize hx : (opq o).length = x at *
      clear hx
      go_wp2_with fail
      have v1 : ∀ nq, (convert 24 9 (.slice A6 x c6)).run Try.prog (w6.drewN nq) = .ok (.string (txt (opq o))) (w6.drewN nq) := fun nq => run_convert_bs (w6.drewN nq) A6 x c6 (opq o) HO6.out
      have v2 : ∀ nq, (convert 24 9 (.slice A x c)).run Try.prog (w6.drewN nq) = .ok (.string (txt (opq o))) (w6.drewN nq) := fun nq => run_convert_bs (w6.drewN nq) A x c (opq o) (by
        have := (HB.out.kept HK6.out).take hlo
        rw [Htk.out] at this
        exact this)
      have d1 : decide ((x : Int) ≤ (n : Int)) = true := by simp; omega
      have d2 : IntKind.i64.wrap ((n : Int) - (x : Int)) = (l'.length : Int) := by rw [IntKind.wrap_i64]; have := Hll.out; omega
      have d3 : (x : Int) ≤ (c : Int) := by omega
      have d4 : (0 : Int) ≤ (x : Int) := by omega
      go_quiet ((go_at_call 34; exact left_quiet w6 q l' 0 _ HR6.out))
      go_wp2_with fail
      go_ret
      exact ⟨rfl, (HK6.out.drewN _).below⟩
    · have hnil : o = [] := Hnil.out he
      subst hnil
      have he1 : (e' != 0) = true := by simp [he]
      clear he Hone Hnil Hlen
      go_wp2_with fail
      refine (err_any w3 q l' e' HR3.out).mono ?_
      rintro e w4 ⟨rfl, rfl⟩
      go_wp2_with fail
      go_ret
      exact ⟨rfl, HK3.out.below⟩
end Go.Proofs.Ytdooimdjejopmaa
