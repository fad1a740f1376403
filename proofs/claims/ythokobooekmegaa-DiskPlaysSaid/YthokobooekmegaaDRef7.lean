/-
  The document's answers for layer 3, continued: New.
-/
import Derived.Test.YthokobooekmegaaDRef6
namespace Go.Proofs.Ythokobooekmegaa
open Go.RowKit

section
variable {P : Program} {md : Region.Mode} {ops : Array Oper} {Q : Exit → Act → World → Prop} {a : Act} {w w1 w2 w3 : World}
/-- One that reads, beside three in a row that may make memory. -/
theorem wpAny_fourTo {i j k l fuel : Nat} {listed : Array Bool} {oi oj ok ol : Oper} {vi vj vk vl : Value} (di dj dk dl : Tmp) (hi : ops[i]? = some oi) (hj : ops[j]? = some oj) (hk : ops[k]? = some ok) (hl : ops[l]? = some ol)
    (gi : oi.guard = none) (gj : oj.guard = none) (gk : ok.guard = none) (gl : ol.guard = none) (ei : oi.dst = some di) (ej : oj.dst = some dj) (ek : ok.dst = some dk) (el : ol.dst = some dl)
    (r0 : Region.ready md ops listed = [i, j]) (ri : Region.ready md ops (listed.setIfInBounds i true) = [j]) (rij : Region.ready md ops ((listed.setIfInBounds i true).setIfInBounds j true) = [k])
    (rijk : Region.ready md ops (((listed.setIfInBounds i true).setIfInBounds j true).setIfInBounds k true) = [l])
    (rj : Region.ready md ops (listed.setIfInBounds j true) = [i, k]) (rjk : Region.ready md ops ((listed.setIfInBounds j true).setIfInBounds k true) = [i, l])
    (rjkl : Region.ready md ops (((listed.setIfInBounds j true).setIfInBounds k true).setIfInBounds l true) = [i]) (hij : i ≠ j) (hik : i ≠ k) (hil : i ≠ l) (n1 : di ≠ dj) (n2 : di ≠ dk) (n3 : di ≠ dl)
    (d0 : Did P oi a w vi w) (d1 : Did P oi (a.put (some dj) vj) w1 vi w1) (d2 : Did P oi ((a.put (some dj) vj).put (some dk) vk) w2 vi w2) (d3 : Did P oi (((a.put (some dj) vj).put (some dk) vk).put (some dl) vl) w3 vi w3)
    (j0 : Did P oj (a.put (some di) vi) w vj w1) (j1 : Did P oj a w vj w1) (k0 : Did P ok ((a.put (some di) vi).put (some dj) vj) w1 vk w2) (k1 : Did P ok (a.put (some dj) vj) w1 vk w2)
    (l0 : Did P ol (((a.put (some di) vi).put (some dj) vj).put (some dk) vk) w2 vl w3) (l1 : Did P ol ((a.put (some dj) vj).put (some dk) vk) w2 vl w3)
    (h : wpAny P md ops Q fuel ((((listed.setIfInBounds i true).setIfInBounds j true).setIfInBounds k true).setIfInBounds l true) ((((a.put (some di) vi).put (some dj) vj).put (some dk) vk).put (some dl) vl) w3) : wpAny P md ops Q (fuel + 4) listed a w := by
  have m1 : (some di : Option Tmp) ≠ some dj := fun e => n1 (Option.some.inj e)
  have m2 : (some di : Option Tmp) ≠ some dk := fun e => n2 (Option.some.inj e)
  have m3 : (some di : Option Tmp) ≠ some dl := fun e => n3 (Option.some.inj e)
  have c1 : (listed.setIfInBounds j true).setIfInBounds i true = (listed.setIfInBounds i true).setIfInBounds j true := Array.setIfInBounds_comm _ _ (Ne.symm hij)
  have c2 : ((listed.setIfInBounds j true).setIfInBounds k true).setIfInBounds i true = ((listed.setIfInBounds i true).setIfInBounds j true).setIfInBounds k true := by rw [Array.setIfInBounds_comm _ _ (Ne.symm hik), c1]
  have c3 : (((listed.setIfInBounds j true).setIfInBounds k true).setIfInBounds l true).setIfInBounds i true = (((listed.setIfInBounds i true).setIfInBounds j true).setIfInBounds k true).setIfInBounds l true := by rw [Array.setIfInBounds_comm _ _ (Ne.symm hil), c2]
  have e1 : (a.put (some dj) vj).put (some di) vi = (a.put (some di) vi).put (some dj) vj := put_comm a (Ne.symm m1) _ _
  have e2 : ((a.put (some dj) vj).put (some dk) vk).put (some di) vi = ((a.put (some di) vi).put (some dj) vj).put (some dk) vk := by rw [put_comm _ (Ne.symm m2), e1]
  have e3 : (((a.put (some dj) vj).put (some dk) vk).put (some dl) vl).put (some di) vi = (((a.put (some di) vi).put (some dj) vj).put (some dk) vk).put (some dl) vl := by rw [put_comm _ (Ne.symm m3), e2]
  refine wpAny_all r0 (by simp) fun n hn => ?_
  rcases List.mem_cons.1 hn with rfl | hn
  · refine d0.op hi gi ?_
    rw [ei]
    refine wpAny_one hj gj ri j0 ?_
    rw [ej]
    refine wpAny_one hk gk rij k0 ?_
    rw [ek]
    refine wpAny_one hl gl rijk l0 ?_
    rw [el]
    exact h
  · obtain rfl : n = j := by simpa using hn
    refine j1.op hj gj ?_
    rw [ej]
    refine wpAny_all rj (by simp) fun n2 hn2 => ?_
    rcases List.mem_cons.1 hn2 with rfl | hn2
    · refine d1.op hi gi ?_
      rw [ei, c1, e1]
      refine wpAny_one hk gk rij k0 ?_
      rw [ek]
      refine wpAny_one hl gl rijk l0 ?_
      rw [el]
      exact h
    · obtain rfl : n2 = k := by simpa using hn2
      refine k1.op hk gk ?_
      rw [ek]
      refine wpAny_all rjk (by simp) fun n3 hn3 => ?_
      rcases List.mem_cons.1 hn3 with rfl | hn3
      · refine d2.op hi gi ?_
        rw [ei, c2, e2]
        refine wpAny_one hl gl rijk l0 ?_
        rw [el]
        exact h
      · obtain rfl : n3 = l := by simpa using hn3
        refine l1.op hl gl ?_
        rw [el]
        refine wpAny_one hi gi rjkl d3 ?_
        rw [ei, c3, e3]
        exact h
end
theorem did_make_bytes {o : Oper} {a : Act} {w : World} (l c : Operand) (ho : o.op = .makeSlice 34 l c) (n : Nat) (hl : a.eval l = .int .i64 (n : Int)) (hc : a.eval c = .int .i64 (n : Int)) (hn : n ≤ 1000000) :
    Did Try.prog o a w (.slice (some ⟨w.heap.size, 0, none⟩) n n) (w.alloc (.cells (bc (List.replicate n 0)).toArray 5)) := by
  obtain ⟨i, hi, hz, hs, hb⟩ := info_parts info_u8
  have hr := run_makeSlice (P := Try.prog) w 34 5 i (.int .u8 0) Try.underlying34 hi hz .i64 .i64 (n : Int) (n : Int) (by omega) (by omega) (by rw [hs]; simp; omega) (by rw [hb]; omega) (by omega)
  rw [hs, Int.toNat_natCast, made_bytes] at hr
  left
  unfold execOp
  simp only [ho, hl, hc, Sem.run_bind, hr, Result.andThen_ok]
  rfl

set_option maxRecDepth 100000 in
set_option maxHeartbeats 1000000 in
theorem newR_no (n : Int) (w : World) (h : n < 1 ∨ 65536 < n) : Calls Try.prog 12 #[.int .i64 n] w fun e w' => e = .returned (.tuple #[.agg #[.slice none 0 0, .slice none 0 0, .int .i64 0, .bool false], .int .i64 1]) ∧ Below w.heap.size w w' := by
  rcases h with h | h
  · go_enter Try.func12, Try.ntmps12
    go_wp2
    refine bodyPost_ret (v := .tuple #[.agg #[.slice none 0 0, .slice none 0 0, .int .i64 0, .bool false], .int .i64 1]) (by simp [results, Try.results12, go_sem]) rfl ⟨rfl, ?_⟩
    exact (Below.refl _ _).alloc (Nat.le_refl _) _
  · have h1 : ¬ n < 1 := by omega
    go_enter Try.func12, Try.ntmps12
    go_wp2
    refine bodyPost_ret (v := .tuple #[.agg #[.slice none 0 0, .slice none 0 0, .int .i64 0, .bool false], .int .i64 1]) (by simp [results, Try.results12, go_sem]) rfl ⟨rfl, ?_⟩
    exact (Below.refl _ _).alloc (Nat.le_refl _) _
end Go.Proofs.Ythokobooekmegaa
