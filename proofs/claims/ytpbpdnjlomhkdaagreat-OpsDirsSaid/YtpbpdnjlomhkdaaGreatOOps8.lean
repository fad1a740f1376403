/-
  Contract of Write (layer 13).
-/
import Derived.Test.YtpbpdnjlomhkdaaGreatOOps7
namespace Go.Proofs.YtpbpdnjlomhkdaaGreat
open Go.RowKit Go.Shelf

namespace Op
theorem sized_take (l : List UInt8) {a n : Nat} (h : a ≤ n) : (sized l n).take a = sized l a := by
  unfold sized
  by_cases hl : l.length ≤ a
  · rw [List.take_of_length_le (by omega : l.length ≤ n), List.take_of_length_le hl, List.take_append, List.take_of_length_le hl, List.take_replicate, Nat.min_eq_left (by omega)]
  · rw [List.take_append_of_le_length (by rw [List.length_take]; omega), List.take_take, Nat.min_eq_left h, show a - l.length = 0 by omega, List.replicate_zero, List.append_nil]
theorem sized_drop (l : List UInt8) (a : Nat) : (sized l (max l.length a)).drop a = l.drop a := by
  unfold sized
  by_cases hl : l.length ≤ a
  · rw [Nat.max_eq_right hl, List.drop_eq_nil_of_le (by rw [List.length_append, List.length_take, List.length_replicate]; omega), List.drop_eq_nil_of_le hl]
  · rw [Nat.max_eq_left (by omega), List.take_of_length_le (Nat.le_refl _), Nat.sub_self, List.replicate_zero, List.append_nil]
theorem write_eq (l m : List UInt8) (a : Nat) : (sized l (max l.length (a + m.length))).take a ++ m ++ (sized l (max l.length (a + m.length))).drop (a + m.length) = sized l a ++ m ++ l.drop (a + m.length) := by
  rw [sized_take l (by omega), sized_drop]
end Op
theorem bc_write (l m : List UInt8) (a : Nat) : (bc (Op.sized l (max l.length (a + m.length)))).take a ++ bc m ++ (bc (Op.sized l (max l.length (a + m.length)))).drop (a + (bc m).length) = bc (Op.sized l a ++ m ++ l.drop (a + m.length)) := by
  rw [bc_length, ← Op.write_eq, bc_append, bc_append]
  unfold bc
  rw [List.map_take, List.map_drop]
section
variable {w0 w w' : World} {p g k : Nat} {t u : Op.TT} {sl : Nat → Sl} {c : Cl} {B : Option Addr} {n d : Nat} {r r' : Rp} {D D' : Option Addr} {m e m' e' : Nat} {E E' : Option Addr} {q f q' f' : Nat}

/-- The bytes of one slot, in a block of their own, are written. -/
theorem RX.fill {z : Nat} (h : RX w0 w p g k t sl c B n d r D m e E q f) {i : Nat} (hi : i < 24) {y : Nat} (hq : w0.heap.size ≤ y) (hp : y ≠ p) (hg : y ≠ g) (ho : ∀ j, j < 24 → j ≠ i → Off y (sl j).a (sl j).n) (hs : sl i = ⟨some ⟨y, 0, none⟩, z, z⟩) (hk : Keep (· ≠ y) w w') {l : List UInt8} (hl : l.length = z) (hb : Bw w' y (bc l) 5) : RX w0 w' p g k (Op.set t i { t.s i with dt := l }) sl c B n d r D m e E q f := by
  obtain ⟨rest, hr⟩ := h.sx.row
  refine ⟨h.bel.trans (hk.below2 (fun j hj => by omega)), h.pos, h.run.keep hk (Ne.symm hp), ⟨⟨rest, ?_⟩, h.sx.cap, fun j hj => ?_⟩, h.data⟩
  · have e1 : kro (Op.set t i { t.s i with dt := l }).s sl 24 = kro t.s sl 24 := by
      have key : ∀ K, kro (Op.set t i { t.s i with dt := l }).s sl K = kro t.s sl K := by
        intro K
        induction K with
        | zero => rfl
        | succ K ih =>
          show kro _ sl K ++ sc ((Op.set t i { t.s i with dt := l }).s K) _ = kro t.s sl K ++ sc (t.s K) _
          rw [ih]
          congr 1
          by_cases e : K = i
          · subst e; rw [Op.set_at]; rfl
          · rw [Op.set_other t _ e]
      exact key 24
    rw [e1]
    exact hr.keep hk (Ne.symm hg)
  · by_cases e : j = i
    · subst e
      rw [Op.set_at, hs]
      have h1 := BS.ofB hb
      rw [hl] at h1
      exact ⟨h1, Nat.le_refl _, fun _ ad e => by injection e with e; subst e; exact hg⟩
    · rw [Op.set_other t _ e]
      have h1 := h.sx.bs j hj
      exact ⟨h1.1.offB (ho j hj e) hk, h1.2⟩
set_option maxRecDepth 100000 in
set_option maxHeartbeats 4000000 in
theorem write_any (h : RX w0 w p g k t sl c B n d (Op.rep0 c) none 0 0 none 0 0) (hs : Op.Sound t) (hdl : c.dt.length ≤ 2000) (hof : c.off < 18446744073709551616) :
    Calls Tryz.prog 57 #[.pointer (some ⟨p, 0, none⟩)] w (OutQ w0 p g k c B n d (Op.write t c)) := by
  have HX0 := Lib.hid h
  have HSD := Lib.hid hs
  obtain ⟨RR, hRR⟩ : ∃ RR, RR = Op.write t c := ⟨_, rfl⟩
  rw [← hRR]
  have HR0 := Lib.hid hRR
  have HDL := Lib.hid hdl
  have HOF := Lib.hid hof
  clear h hs hRR hdl hof
  go_enter Tryz.func57, Tryz.ntmps57
  go_wp2_with (refine wpList_load_part rfl 35 (.tmp 8) rfl p 6 rfl _ Tryz.underlying35 rfl (hc c.ati c.atg) 104 _ HX0.out.run size_H xc_at ?_)
  refine (thing_any HX0.out c.ati c.atg).mono ?_
  rintro e w1 ⟨⟨hz, rfl⟩ | ⟨hz, rfl⟩, hb⟩
  rotate_left
  · have h69 : Op.thingE t c.ati c.atg = 69 := by
      rcases thingE_two t c.ati c.atg with h | h
      · exact absurd h.1 hz
      · exact h
    rw [h69]
    exact ⟨rfl, .no (HR0.out.trans ((if_pos (by rw [fileE_stale hz]; decide)).trans (by rw [fileE_stale hz]))) (HX0.out.below hb).bel⟩
  have HX1 := Lib.hid (HX0.out.below hb)
  have HIA := Lib.hid (Op.thing_ok hz)
  have HFE := Lib.hid (fileE_thing hz (Vl.okB_facts (HSD.out.inv.may.ok _ HIA.out.1)).2.1)
  clear hz hb HX0
  go_wp2_with fail
  refine (file_any HX1.out HIA.out.1).mono ?_
  rw [← HFE.out]
  rintro e wx ⟨⟨hz, rfl⟩ | ⟨hz, rfl⟩, hb⟩
  rotate_left
  · exact ⟨rfl, .no (HR0.out.trans (if_pos hz)) (HX1.out.below hb).bel⟩
  have HXF := Lib.hid (HX1.out.below hb)
  have HRF := Lib.hid (HR0.out.trans (if_neg (fun h => h hz)))
  have HN : Hid (c.dt.length = n) := HXF.out.data.1.1
  have hn2 : n ≤ 2000 := by rw [← HN.out]; exact HDL.out
  clear hz hb HR0 HX1 HFE
  go_upto_region 2 with fail
  by_cases ho : 768 < c.off
  · have HRE := Lib.hid (HRF.out.trans (if_pos (.inl ho)))
    clear HRF
    have HS : Hid ((fun W : World => W.cell? ⟨p, 12, none⟩ = some (.int .u64 (c.off : Int)) ∧ W.cell? ⟨p, 16, none⟩ = some (.slice B n d)) wx.drew) := ⟨HXF.out.cellR 12 _ rfl, HXF.out.cellR 16 _ rfl⟩
    refine wp_region_held_drew (S := (fun W : World => W.cell? ⟨p, 12, none⟩ = some (.int .u64 (c.off : Int)) ∧ W.cell? ⟨p, 16, none⟩ = some (.slice B n d))) (by kernel_rfl) HS.out (fun _ => ?_)
    change wpAnyH _ _ _ _ _ 23 (Array.replicate 23 false) _ _
    refine takeH (i := 0) 13 (.pointer (some ⟨p, 0, none⟩)) rfl rfl (by kernel_rfl) (by kernel_rfl) (by kernel_rfl) (fun _ _ _ h => h) (.inl ⟨by rfl, fun W hW => by go_simp⟩) HS.out ?_
    simp only [Act.put, List.setIfInBounds_toArray, List.set_cons_zero, List.set_cons_succ]
    refine takeH (i := 1) 14 (.pointer (some ⟨p, 0, none⟩)) rfl rfl (by kernel_rfl) (by kernel_rfl) (by kernel_rfl) (fun _ _ _ h => h) (.inl ⟨by rfl, fun W hW => by go_simp⟩) HS.out ?_
    simp only [Act.put, List.setIfInBounds_toArray, List.set_cons_zero, List.set_cons_succ]
    refine takeH (i := 2) 15 (.pointer (some ⟨p, 3, none⟩)) rfl rfl (by kernel_rfl) (by kernel_rfl) (by kernel_rfl) (fun _ _ _ h => h) (.inl ⟨by rfl, fun W hW => by go_simp⟩) HS.out ?_
    simp only [Act.put, List.setIfInBounds_toArray, List.set_cons_zero, List.set_cons_succ]
    refine takeH (i := 3) 16 (.pointer (some ⟨p, 12, none⟩)) rfl rfl (by kernel_rfl) (by kernel_rfl) (by kernel_rfl) (fun _ _ _ h => h) (.inl ⟨by rfl, fun W hW => by go_simp⟩) HS.out ?_
    simp only [Act.put, List.setIfInBounds_toArray, List.set_cons_zero, List.set_cons_succ]
    refine takeH (i := 4) 17 (.int .u64 (c.off : Int)) rfl rfl (by kernel_rfl) (by kernel_rfl) (by kernel_rfl) (fun _ _ _ h => h) (.inl ⟨by rfl, fun W hW => by (have hz := hW.1; go_simp)⟩) HS.out ?_
    simp only [Act.put, List.setIfInBounds_toArray, List.set_cons_zero, List.set_cons_succ]
    refine takeH (i := 5) 18 (.bool true) rfl rfl (by kernel_rfl) (by kernel_rfl) (by kernel_rfl) (fun _ _ _ h => h) (.inl ⟨by rfl, fun W hW => by (go_simp; omega)⟩) HS.out ?_
    simp only [Act.put, List.setIfInBounds_toArray, List.set_cons_zero, List.set_cons_succ]
    refine takeH (i := 6) 19 (.bool true) rfl rfl (by kernel_rfl) (by kernel_rfl) (by kernel_rfl) (fun _ _ _ h => h) (.inl ⟨by rfl, fun W hW => by go_simp⟩) HS.out ?_
    simp only [Act.put, List.setIfInBounds_toArray, List.set_cons_zero, List.set_cons_succ]
    refine takeH (i := 7) 20 undef rfl rfl (by kernel_rfl) (by kernel_rfl) (by kernel_rfl) (fun _ _ _ h => h) (.inr ⟨by rfl, rfl⟩) HS.out ?_
    simp only [Act.put, List.setIfInBounds_toArray, List.set_cons_zero, List.set_cons_succ]
    refine takeH (i := 8) 21 undef rfl rfl (by kernel_rfl) (by kernel_rfl) (by kernel_rfl) (fun _ _ _ h => h) (.inr ⟨by rfl, rfl⟩) HS.out ?_
    simp only [Act.put, List.setIfInBounds_toArray, List.set_cons_zero, List.set_cons_succ]
    refine takeH (i := 9) 22 undef rfl rfl (by kernel_rfl) (by kernel_rfl) (by kernel_rfl) (fun _ _ _ h => h) (.inr ⟨by rfl, rfl⟩) HS.out ?_
    simp only [Act.put, List.setIfInBounds_toArray, List.set_cons_zero, List.set_cons_succ]
    refine takeH (i := 10) 23 undef rfl rfl (by kernel_rfl) (by kernel_rfl) (by kernel_rfl) (fun _ _ _ h => h) (.inr ⟨by rfl, rfl⟩) HS.out ?_
    simp only [Act.put, List.setIfInBounds_toArray, List.set_cons_zero, List.set_cons_succ]
    refine takeH (i := 11) 24 undef rfl rfl (by kernel_rfl) (by kernel_rfl) (by kernel_rfl) (fun _ _ _ h => h) (.inr ⟨by rfl, rfl⟩) HS.out ?_
    simp only [Act.put, List.setIfInBounds_toArray, List.set_cons_zero, List.set_cons_succ]
    refine takeH (i := 12) 25 undef rfl rfl (by kernel_rfl) (by kernel_rfl) (by kernel_rfl) (fun _ _ _ h => h) (.inr ⟨by rfl, rfl⟩) HS.out ?_
    simp only [Act.put, List.setIfInBounds_toArray, List.set_cons_zero, List.set_cons_succ]
    refine takeH (i := 13) 26 undef rfl rfl (by kernel_rfl) (by kernel_rfl) (by kernel_rfl) (fun _ _ _ h => h) (.inr ⟨by rfl, rfl⟩) HS.out ?_
    simp only [Act.put, List.setIfInBounds_toArray, List.set_cons_zero, List.set_cons_succ]
    refine takeH (i := 14) 27 undef rfl rfl (by kernel_rfl) (by kernel_rfl) (by kernel_rfl) (fun _ _ _ h => h) (.inr ⟨by rfl, rfl⟩) HS.out ?_
    simp only [Act.put, List.setIfInBounds_toArray, List.set_cons_zero, List.set_cons_succ]
    refine takeH (i := 15) 28 undef rfl rfl (by kernel_rfl) (by kernel_rfl) (by kernel_rfl) (fun _ _ _ h => h) (.inr ⟨by rfl, rfl⟩) HS.out ?_
    simp only [Act.put, List.setIfInBounds_toArray, List.set_cons_zero, List.set_cons_succ]
    refine takeH (i := 16) 29 undef rfl rfl (by kernel_rfl) (by kernel_rfl) (by kernel_rfl) (fun _ _ _ h => h) (.inr ⟨by rfl, rfl⟩) HS.out ?_
    simp only [Act.put, List.setIfInBounds_toArray, List.set_cons_zero, List.set_cons_succ]
    refine takeH (i := 17) 30 undef rfl rfl (by kernel_rfl) (by kernel_rfl) (by kernel_rfl) (fun _ _ _ h => h) (.inr ⟨by rfl, rfl⟩) HS.out ?_
    simp only [Act.put, List.setIfInBounds_toArray, List.set_cons_zero, List.set_cons_succ]
    refine takeH (i := 18) 31 undef rfl rfl (by kernel_rfl) (by kernel_rfl) (by kernel_rfl) (fun _ _ _ h => h) (.inr ⟨by rfl, rfl⟩) HS.out ?_
    simp only [Act.put, List.setIfInBounds_toArray, List.set_cons_zero, List.set_cons_succ]
    refine takeH (i := 19) 32 undef rfl rfl (by kernel_rfl) (by kernel_rfl) (by kernel_rfl) (fun _ _ _ h => h) (.inr ⟨by rfl, rfl⟩) HS.out ?_
    simp only [Act.put, List.setIfInBounds_toArray, List.set_cons_zero, List.set_cons_succ]
    refine takeH (i := 20) 33 undef rfl rfl (by kernel_rfl) (by kernel_rfl) (by kernel_rfl) (fun _ _ _ h => h) (.inr ⟨by rfl, rfl⟩) HS.out ?_
    simp only [Act.put, List.setIfInBounds_toArray, List.set_cons_zero, List.set_cons_succ]
    refine takeH (i := 21) 34 (.bool true) rfl rfl (by kernel_rfl) (by kernel_rfl) (by kernel_rfl) (fun _ _ _ h => h) (.inl ⟨by rfl, fun W hW => by go_simp⟩) HS.out ?_
    simp only [Act.put, List.setIfInBounds_toArray, List.set_cons_zero, List.set_cons_succ]
    refine wpAnyH_ready (rs := [22]) (by kernel_rfl) (by simp) ?_
    refine AllReadyH.cons rfl (fun K hK => ?_) AllReadyH.nil
    go_simp
    refine (refuse_yes 65 _).mono ?_
    rintro e w' ⟨rfl, rfl⟩
    exact ⟨rfl, .no HRE.out HXF.out.drew.bel⟩
  have HO7 : Hid (c.off ≤ 768) := by show _ ≤ _; omega
  have ho7 : c.off ≤ 768 := HO7.out
  by_cases hs : 768 < c.off + n
  · have HRE := Lib.hid (HRF.out.trans (if_pos (.inr (by rw [HN.out]; exact hs))))
    clear HRF ho
    have HS : Hid ((fun W : World => W.cell? ⟨p, 12, none⟩ = some (.int .u64 (c.off : Int)) ∧ W.cell? ⟨p, 16, none⟩ = some (.slice B n d)) wx.drew) := ⟨HXF.out.cellR 12 _ rfl, HXF.out.cellR 16 _ rfl⟩
    refine wp_region_held_drew (S := (fun W : World => W.cell? ⟨p, 12, none⟩ = some (.int .u64 (c.off : Int)) ∧ W.cell? ⟨p, 16, none⟩ = some (.slice B n d))) (by kernel_rfl) HS.out (fun _ => ?_)
    change wpAnyH _ _ _ _ _ 23 (Array.replicate 23 false) _ _
    refine takeH (i := 0) 13 (.pointer (some ⟨p, 0, none⟩)) rfl rfl (by kernel_rfl) (by kernel_rfl) (by kernel_rfl) (fun _ _ _ h => h) (.inl ⟨by rfl, fun W hW => by go_simp⟩) HS.out ?_
    simp only [Act.put, List.setIfInBounds_toArray, List.set_cons_zero, List.set_cons_succ]
    refine takeH (i := 1) 14 (.pointer (some ⟨p, 0, none⟩)) rfl rfl (by kernel_rfl) (by kernel_rfl) (by kernel_rfl) (fun _ _ _ h => h) (.inl ⟨by rfl, fun W hW => by go_simp⟩) HS.out ?_
    simp only [Act.put, List.setIfInBounds_toArray, List.set_cons_zero, List.set_cons_succ]
    refine takeH (i := 2) 15 (.pointer (some ⟨p, 3, none⟩)) rfl rfl (by kernel_rfl) (by kernel_rfl) (by kernel_rfl) (fun _ _ _ h => h) (.inl ⟨by rfl, fun W hW => by go_simp⟩) HS.out ?_
    simp only [Act.put, List.setIfInBounds_toArray, List.set_cons_zero, List.set_cons_succ]
    refine takeH (i := 3) 16 (.pointer (some ⟨p, 12, none⟩)) rfl rfl (by kernel_rfl) (by kernel_rfl) (by kernel_rfl) (fun _ _ _ h => h) (.inl ⟨by rfl, fun W hW => by go_simp⟩) HS.out ?_
    simp only [Act.put, List.setIfInBounds_toArray, List.set_cons_zero, List.set_cons_succ]
    refine takeH (i := 4) 17 (.int .u64 (c.off : Int)) rfl rfl (by kernel_rfl) (by kernel_rfl) (by kernel_rfl) (fun _ _ _ h => h) (.inl ⟨by rfl, fun W hW => by (have hz := hW.1; go_simp)⟩) HS.out ?_
    simp only [Act.put, List.setIfInBounds_toArray, List.set_cons_zero, List.set_cons_succ]
    refine takeH (i := 5) 18 (.bool false) rfl rfl (by kernel_rfl) (by kernel_rfl) (by kernel_rfl) (fun _ _ _ h => h) (.inl ⟨by rfl, fun W hW => by (go_simp; omega)⟩) HS.out ?_
    simp only [Act.put, List.setIfInBounds_toArray, List.set_cons_zero, List.set_cons_succ]
    refine takeH (i := 6) 19 (.bool false) rfl rfl (by kernel_rfl) (by kernel_rfl) (by kernel_rfl) (fun _ _ _ h => h) (.inl ⟨by rfl, fun W hW => by go_simp⟩) HS.out ?_
    simp only [Act.put, List.setIfInBounds_toArray, List.set_cons_zero, List.set_cons_succ]
    refine takeH (i := 7) 20 (.pointer (some ⟨p, 0, none⟩)) rfl rfl (by kernel_rfl) (by kernel_rfl) (by kernel_rfl) (fun _ _ _ h => h) (.inl ⟨by rfl, fun W hW => by go_simp⟩) HS.out ?_
    simp only [Act.put, List.setIfInBounds_toArray, List.set_cons_zero, List.set_cons_succ]
    refine takeH (i := 8) 21 (.pointer (some ⟨p, 0, none⟩)) rfl rfl (by kernel_rfl) (by kernel_rfl) (by kernel_rfl) (fun _ _ _ h => h) (.inl ⟨by rfl, fun W hW => by go_simp⟩) HS.out ?_
    simp only [Act.put, List.setIfInBounds_toArray, List.set_cons_zero, List.set_cons_succ]
    refine takeH (i := 9) 22 (.pointer (some ⟨p, 3, none⟩)) rfl rfl (by kernel_rfl) (by kernel_rfl) (by kernel_rfl) (fun _ _ _ h => h) (.inl ⟨by rfl, fun W hW => by go_simp⟩) HS.out ?_
    simp only [Act.put, List.setIfInBounds_toArray, List.set_cons_zero, List.set_cons_succ]
    refine takeH (i := 10) 23 (.pointer (some ⟨p, 16, none⟩)) rfl rfl (by kernel_rfl) (by kernel_rfl) (by kernel_rfl) (fun _ _ _ h => h) (.inl ⟨by rfl, fun W hW => by go_simp⟩) HS.out ?_
    simp only [Act.put, List.setIfInBounds_toArray, List.set_cons_zero, List.set_cons_succ]
    refine takeH (i := 11) 24 (.slice B n d) rfl rfl (by kernel_rfl) (by kernel_rfl) (by kernel_rfl) (fun _ _ _ h => h) (.inl ⟨by rfl, fun W hW => by (have hz := hW.2; go_simp)⟩) HS.out ?_
    simp only [Act.put, List.setIfInBounds_toArray, List.set_cons_zero, List.set_cons_succ]
    refine takeH (i := 12) 25 (.int .i64 (n : Int)) rfl rfl (by kernel_rfl) (by kernel_rfl) (by kernel_rfl) (fun _ _ _ h => h) (.inl ⟨by rfl, fun W hW => by go_simp⟩) HS.out ?_
    simp only [Act.put, List.setIfInBounds_toArray, List.set_cons_zero, List.set_cons_succ]
    refine takeH (i := 13) 26 (.pointer (some ⟨p, 0, none⟩)) rfl rfl (by kernel_rfl) (by kernel_rfl) (by kernel_rfl) (fun _ _ _ h => h) (.inl ⟨by rfl, fun W hW => by go_simp⟩) HS.out ?_
    simp only [Act.put, List.setIfInBounds_toArray, List.set_cons_zero, List.set_cons_succ]
    refine takeH (i := 14) 27 (.pointer (some ⟨p, 0, none⟩)) rfl rfl (by kernel_rfl) (by kernel_rfl) (by kernel_rfl) (fun _ _ _ h => h) (.inl ⟨by rfl, fun W hW => by go_simp⟩) HS.out ?_
    simp only [Act.put, List.setIfInBounds_toArray, List.set_cons_zero, List.set_cons_succ]
    refine takeH (i := 15) 28 (.pointer (some ⟨p, 3, none⟩)) rfl rfl (by kernel_rfl) (by kernel_rfl) (by kernel_rfl) (fun _ _ _ h => h) (.inl ⟨by rfl, fun W hW => by go_simp⟩) HS.out ?_
    simp only [Act.put, List.setIfInBounds_toArray, List.set_cons_zero, List.set_cons_succ]
    refine takeH (i := 16) 29 (.pointer (some ⟨p, 12, none⟩)) rfl rfl (by kernel_rfl) (by kernel_rfl) (by kernel_rfl) (fun _ _ _ h => h) (.inl ⟨by rfl, fun W hW => by go_simp⟩) HS.out ?_
    simp only [Act.put, List.setIfInBounds_toArray, List.set_cons_zero, List.set_cons_succ]
    refine takeH (i := 17) 30 (.int .u64 (c.off : Int)) rfl rfl (by kernel_rfl) (by kernel_rfl) (by kernel_rfl) (fun _ _ _ h => h) (.inl ⟨by rfl, fun W hW => by (have hz := hW.1; go_simp)⟩) HS.out ?_
    simp only [Act.put, List.setIfInBounds_toArray, List.set_cons_zero, List.set_cons_succ]
    refine takeH (i := 18) 31 (.int .i64 (c.off : Int)) rfl rfl (by kernel_rfl) (by kernel_rfl) (by kernel_rfl) (fun _ _ _ h => h) (.inl ⟨by rfl, fun W hW => by (go_simp; exact IntWalk.i64_in _ (by omega))⟩) HS.out ?_
    simp only [Act.put, List.setIfInBounds_toArray, List.set_cons_zero, List.set_cons_succ]
    refine takeH (i := 19) 32 (.int .i64 (768 - (c.off : Int))) rfl rfl (by kernel_rfl) (by kernel_rfl) (by kernel_rfl) (fun _ _ _ h => h) (.inl ⟨by rfl, fun W hW => by (go_simp; exact IntWalk.i64_in _ (by omega))⟩) HS.out ?_
    simp only [Act.put, List.setIfInBounds_toArray, List.set_cons_zero, List.set_cons_succ]
    refine takeH (i := 20) 33 (.bool true) rfl rfl (by kernel_rfl) (by kernel_rfl) (by kernel_rfl) (fun _ _ _ h => h) (.inl ⟨by rfl, fun W hW => by (go_simp; omega)⟩) HS.out ?_
    simp only [Act.put, List.setIfInBounds_toArray, List.set_cons_zero, List.set_cons_succ]
    refine takeH (i := 21) 34 (.bool true) rfl rfl (by kernel_rfl) (by kernel_rfl) (by kernel_rfl) (fun _ _ _ h => h) (.inl ⟨by rfl, fun W hW => by go_simp⟩) HS.out ?_
    simp only [Act.put, List.setIfInBounds_toArray, List.set_cons_zero, List.set_cons_succ]
    refine wpAnyH_ready (rs := [22]) (by kernel_rfl) (by simp) ?_
    refine AllReadyH.cons rfl (fun K hK => ?_) AllReadyH.nil
    go_simp
    refine (refuse_yes 65 _).mono ?_
    rintro e w' ⟨rfl, rfl⟩
    exact ⟨rfl, .no HRE.out HXF.out.drew.bel⟩
  have HRG := Lib.hid (HRF.out.trans (if_neg (fun h => by
    rcases h with h | h
    · exact ho h
    · rw [HN.out] at h; exact hs h)))
  have HSM : Hid (c.off + n ≤ 768) := by show _ ≤ _; omega
  clear HRF ho
  · skip
    have HS : Hid ((fun W : World => W.cell? ⟨p, 12, none⟩ = some (.int .u64 (c.off : Int)) ∧ W.cell? ⟨p, 16, none⟩ = some (.slice B n d)) wx.drew) := ⟨HXF.out.cellR 12 _ rfl, HXF.out.cellR 16 _ rfl⟩
    refine wp_region_held_drew (S := (fun W : World => W.cell? ⟨p, 12, none⟩ = some (.int .u64 (c.off : Int)) ∧ W.cell? ⟨p, 16, none⟩ = some (.slice B n d))) (by kernel_rfl) HS.out (fun _ => ?_)
    change wpAnyH _ _ _ _ _ 23 (Array.replicate 23 false) _ _
    refine takeH (i := 0) 13 (.pointer (some ⟨p, 0, none⟩)) rfl rfl (by kernel_rfl) (by kernel_rfl) (by kernel_rfl) (fun _ _ _ h => h) (.inl ⟨by rfl, fun W hW => by go_simp⟩) HS.out ?_
    simp only [Act.put, List.setIfInBounds_toArray, List.set_cons_zero, List.set_cons_succ]
    refine takeH (i := 1) 14 (.pointer (some ⟨p, 0, none⟩)) rfl rfl (by kernel_rfl) (by kernel_rfl) (by kernel_rfl) (fun _ _ _ h => h) (.inl ⟨by rfl, fun W hW => by go_simp⟩) HS.out ?_
    simp only [Act.put, List.setIfInBounds_toArray, List.set_cons_zero, List.set_cons_succ]
    refine takeH (i := 2) 15 (.pointer (some ⟨p, 3, none⟩)) rfl rfl (by kernel_rfl) (by kernel_rfl) (by kernel_rfl) (fun _ _ _ h => h) (.inl ⟨by rfl, fun W hW => by go_simp⟩) HS.out ?_
    simp only [Act.put, List.setIfInBounds_toArray, List.set_cons_zero, List.set_cons_succ]
    refine takeH (i := 3) 16 (.pointer (some ⟨p, 12, none⟩)) rfl rfl (by kernel_rfl) (by kernel_rfl) (by kernel_rfl) (fun _ _ _ h => h) (.inl ⟨by rfl, fun W hW => by go_simp⟩) HS.out ?_
    simp only [Act.put, List.setIfInBounds_toArray, List.set_cons_zero, List.set_cons_succ]
    refine takeH (i := 4) 17 (.int .u64 (c.off : Int)) rfl rfl (by kernel_rfl) (by kernel_rfl) (by kernel_rfl) (fun _ _ _ h => h) (.inl ⟨by rfl, fun W hW => by (have hz := hW.1; go_simp)⟩) HS.out ?_
    simp only [Act.put, List.setIfInBounds_toArray, List.set_cons_zero, List.set_cons_succ]
    refine takeH (i := 5) 18 (.bool false) rfl rfl (by kernel_rfl) (by kernel_rfl) (by kernel_rfl) (fun _ _ _ h => h) (.inl ⟨by rfl, fun W hW => by (go_simp; omega)⟩) HS.out ?_
    simp only [Act.put, List.setIfInBounds_toArray, List.set_cons_zero, List.set_cons_succ]
    refine takeH (i := 6) 19 (.bool false) rfl rfl (by kernel_rfl) (by kernel_rfl) (by kernel_rfl) (fun _ _ _ h => h) (.inl ⟨by rfl, fun W hW => by go_simp⟩) HS.out ?_
    simp only [Act.put, List.setIfInBounds_toArray, List.set_cons_zero, List.set_cons_succ]
    refine takeH (i := 7) 20 (.pointer (some ⟨p, 0, none⟩)) rfl rfl (by kernel_rfl) (by kernel_rfl) (by kernel_rfl) (fun _ _ _ h => h) (.inl ⟨by rfl, fun W hW => by go_simp⟩) HS.out ?_
    simp only [Act.put, List.setIfInBounds_toArray, List.set_cons_zero, List.set_cons_succ]
    refine takeH (i := 8) 21 (.pointer (some ⟨p, 0, none⟩)) rfl rfl (by kernel_rfl) (by kernel_rfl) (by kernel_rfl) (fun _ _ _ h => h) (.inl ⟨by rfl, fun W hW => by go_simp⟩) HS.out ?_
    simp only [Act.put, List.setIfInBounds_toArray, List.set_cons_zero, List.set_cons_succ]
    refine takeH (i := 9) 22 (.pointer (some ⟨p, 3, none⟩)) rfl rfl (by kernel_rfl) (by kernel_rfl) (by kernel_rfl) (fun _ _ _ h => h) (.inl ⟨by rfl, fun W hW => by go_simp⟩) HS.out ?_
    simp only [Act.put, List.setIfInBounds_toArray, List.set_cons_zero, List.set_cons_succ]
    refine takeH (i := 10) 23 (.pointer (some ⟨p, 16, none⟩)) rfl rfl (by kernel_rfl) (by kernel_rfl) (by kernel_rfl) (fun _ _ _ h => h) (.inl ⟨by rfl, fun W hW => by go_simp⟩) HS.out ?_
    simp only [Act.put, List.setIfInBounds_toArray, List.set_cons_zero, List.set_cons_succ]
    refine takeH (i := 11) 24 (.slice B n d) rfl rfl (by kernel_rfl) (by kernel_rfl) (by kernel_rfl) (fun _ _ _ h => h) (.inl ⟨by rfl, fun W hW => by (have hz := hW.2; go_simp)⟩) HS.out ?_
    simp only [Act.put, List.setIfInBounds_toArray, List.set_cons_zero, List.set_cons_succ]
    refine takeH (i := 12) 25 (.int .i64 (n : Int)) rfl rfl (by kernel_rfl) (by kernel_rfl) (by kernel_rfl) (fun _ _ _ h => h) (.inl ⟨by rfl, fun W hW => by go_simp⟩) HS.out ?_
    simp only [Act.put, List.setIfInBounds_toArray, List.set_cons_zero, List.set_cons_succ]
    refine takeH (i := 13) 26 (.pointer (some ⟨p, 0, none⟩)) rfl rfl (by kernel_rfl) (by kernel_rfl) (by kernel_rfl) (fun _ _ _ h => h) (.inl ⟨by rfl, fun W hW => by go_simp⟩) HS.out ?_
    simp only [Act.put, List.setIfInBounds_toArray, List.set_cons_zero, List.set_cons_succ]
    refine takeH (i := 14) 27 (.pointer (some ⟨p, 0, none⟩)) rfl rfl (by kernel_rfl) (by kernel_rfl) (by kernel_rfl) (fun _ _ _ h => h) (.inl ⟨by rfl, fun W hW => by go_simp⟩) HS.out ?_
    simp only [Act.put, List.setIfInBounds_toArray, List.set_cons_zero, List.set_cons_succ]
    refine takeH (i := 15) 28 (.pointer (some ⟨p, 3, none⟩)) rfl rfl (by kernel_rfl) (by kernel_rfl) (by kernel_rfl) (fun _ _ _ h => h) (.inl ⟨by rfl, fun W hW => by go_simp⟩) HS.out ?_
    simp only [Act.put, List.setIfInBounds_toArray, List.set_cons_zero, List.set_cons_succ]
    refine takeH (i := 16) 29 (.pointer (some ⟨p, 12, none⟩)) rfl rfl (by kernel_rfl) (by kernel_rfl) (by kernel_rfl) (fun _ _ _ h => h) (.inl ⟨by rfl, fun W hW => by go_simp⟩) HS.out ?_
    simp only [Act.put, List.setIfInBounds_toArray, List.set_cons_zero, List.set_cons_succ]
    refine takeH (i := 17) 30 (.int .u64 (c.off : Int)) rfl rfl (by kernel_rfl) (by kernel_rfl) (by kernel_rfl) (fun _ _ _ h => h) (.inl ⟨by rfl, fun W hW => by (have hz := hW.1; go_simp)⟩) HS.out ?_
    simp only [Act.put, List.setIfInBounds_toArray, List.set_cons_zero, List.set_cons_succ]
    refine takeH (i := 18) 31 (.int .i64 (c.off : Int)) rfl rfl (by kernel_rfl) (by kernel_rfl) (by kernel_rfl) (fun _ _ _ h => h) (.inl ⟨by rfl, fun W hW => by (go_simp; exact IntWalk.i64_in _ (by omega))⟩) HS.out ?_
    simp only [Act.put, List.setIfInBounds_toArray, List.set_cons_zero, List.set_cons_succ]
    refine takeH (i := 19) 32 (.int .i64 (768 - (c.off : Int))) rfl rfl (by kernel_rfl) (by kernel_rfl) (by kernel_rfl) (fun _ _ _ h => h) (.inl ⟨by rfl, fun W hW => by (go_simp; exact IntWalk.i64_in _ (by omega))⟩) HS.out ?_
    simp only [Act.put, List.setIfInBounds_toArray, List.set_cons_zero, List.set_cons_succ]
    refine takeH (i := 20) 33 (.bool false) rfl rfl (by kernel_rfl) (by kernel_rfl) (by kernel_rfl) (fun _ _ _ h => h) (.inl ⟨by rfl, fun W hW => by (go_simp; omega)⟩) HS.out ?_
    simp only [Act.put, List.setIfInBounds_toArray, List.set_cons_zero, List.set_cons_succ]
    refine takeH (i := 21) 34 (.bool false) rfl rfl (by kernel_rfl) (by kernel_rfl) (by kernel_rfl) (fun _ _ _ h => h) (.inl ⟨by rfl, fun W hW => by go_simp⟩) HS.out ?_
    simp only [Act.put, List.setIfInBounds_toArray, List.set_cons_zero, List.set_cons_succ]
    refine wpAnyH_ready (rs := [22]) (by kernel_rfl) (by simp) ?_
    refine AllReadyH.cons rfl (fun K hK => ?_) AllReadyH.nil
    go_simp
    refine (refuse_no 65 _).mono ?_
    rintro e w' ⟨rfl, rfl⟩
    refine hK.out _ _ HS.out fun _ => ?_
    clear hK K
    refine wpAnyH_done (by kernel_rfl) ?_ _
    have HX3 := Lib.hid HXF.out.drew
    clear HS HXF hs
    generalize wx.drew = w3 at *
    have q16 := HX3.out.cellR 16 _ rfl
    by_cases h0 : n = 0
    · have HRZ : Hid (RR = .ok (t, Op.told t (Op.rep0 c) c.ati)) := HRG.out.trans (if_pos (List.eq_nil_of_length_eq_zero (by rw [HN.out]; exact h0)))
      subst h0
      clear HRG
      go_wp2_with fail
      refine (report_any HX3.out HIA.out.1).mono ?_
      rintro e we ⟨rfl, h1, h2⟩
      have HXE := Lib.hid h1
      clear h1 h2 HX3
      go_wp2_with fail
      go_end0
      exact .ok HRZ.out HXE.out (RM.none rfl rfl)
    have hn0 : decide ((0 : Int) < (n : Int)) = true := by simp; omega
    have HRH := Lib.hid (HRG.out.trans (if_neg (fun h => h0 (by rw [← HN.out, h]; rfl))))
    have q12 := HX3.out.cellR 12 _ rfl
    clear HRG
    go_upto_region 5 with fail
    have HX3d := Lib.hid HX3.out.drew
    obtain ⟨A, x, y, hA⟩ : ∃ A x y, (sl c.ati).a = A ∧ (sl c.ati).n = x ∧ (sl c.ati).c = y := ⟨_, _, _, rfl, rfl, rfl⟩
    have HK8 : Hid (∀ W, RX w0 W p g k t sl c B n d (Op.rep0 c) none 0 0 none 0 0 → W.cell? ⟨g, c.ati * 9 + 8, none⟩ = some (.slice A x y)) := fun W hx => by
      have := hx.cellS HIA.out.1 8 _ rfl
      rw [hA.1, hA.2.1, hA.2.2] at this
      exact this
    have HDB : Hid (BS w3.drew A x (t.s c.ati).dt) := by
      have := (HX3d.out.sx.bs c.ati HIA.out.1).1
      rw [hA.1, hA.2.1] at this
      exact this
    have HLX : Hid ((t.s c.ati).dt.length = x) := HDB.out.1
    have hx7 : x ≤ 768 := by rw [← HDB.out.1]; exact (Vl.okB_facts (HSD.out.inv.may.ok _ HIA.out.1)).2.2
    have hsm := HSM.out
    obtain ⟨T, hT⟩ : ∃ T, T = c.off + n := ⟨_, rfl⟩
    obtain ⟨N2, hN2⟩ : ∃ N2, N2 = max x T := ⟨_, rfl⟩
    have hN7 : N2 ≤ 768 := by omega
    have HTT := Lib.hid hT
    have HN2 := Lib.hid hN2
    clear hT hN2
    have HS : Hid ((fun W : World => W.cell? ⟨p, 16, none⟩ = some (.slice B n d)) w3.drew) := HX3d.out.cellR 16 _ rfl
    clear hA HX3 q16 q12 hn0 HSM HO7
    refine wp_region_held_drew (S := (fun W : World => W.cell? ⟨p, 16, none⟩ = some (.slice B n d))) (by kernel_rfl) HS.out (fun _ => ?_)
    change wpAnyH _ _ _ _ _ 23 (Array.replicate 23 false) _ _
    generalize w3.drew = wd at *
    have HXd := HX3d
    clear HX3d
    refine takeH (i := 0) 49 (.pointer (some ⟨g, c.ati * 9, none⟩)) rfl rfl (by kernel_rfl) (by kernel_rfl) (by kernel_rfl) (fun _ _ _ h => h) (.inl ⟨by rfl, fun W hW => by go_simp⟩) HS.out ?_
    simp only [Act.put, List.setIfInBounds_toArray, List.set_cons_zero, List.set_cons_succ]
    refine takeH (i := 1) 50 (.pointer (some ⟨g, c.ati * 9, none⟩)) rfl rfl (by kernel_rfl) (by kernel_rfl) (by kernel_rfl) (fun _ _ _ h => h) (.inl ⟨by rfl, fun W hW => by go_simp⟩) HS.out ?_
    simp only [Act.put, List.setIfInBounds_toArray, List.set_cons_zero, List.set_cons_succ]
    refine takeH (i := 2) 51 (.pointer (some ⟨g, c.ati * 9, none⟩)) rfl rfl (by kernel_rfl) (by kernel_rfl) (by kernel_rfl) (fun _ _ _ h => h) (.inl ⟨by rfl, fun W hW => by go_simp⟩) HS.out ?_
    simp only [Act.put, List.setIfInBounds_toArray, List.set_cons_zero, List.set_cons_succ]
    refine takeH (i := 3) 52 (.pointer (some ⟨g, c.ati * 9 + 8, none⟩)) rfl rfl (by kernel_rfl) (by kernel_rfl) (by kernel_rfl) (fun _ _ _ h => h) (.inl ⟨by rfl, fun W hW => by go_simp⟩) HS.out ?_
    simp only [Act.put, List.setIfInBounds_toArray, List.set_cons_zero, List.set_cons_succ]
    refine takeH (i := 5) 54 (.pointer (some ⟨g, c.ati * 9, none⟩)) rfl rfl (by kernel_rfl) (by kernel_rfl) (by kernel_rfl) (fun _ _ _ h => h) (.inl ⟨by rfl, fun W hW => by go_simp⟩) HS.out ?_
    simp only [Act.put, List.setIfInBounds_toArray, List.set_cons_zero, List.set_cons_succ]
    refine takeH (i := 6) 55 (.pointer (some ⟨g, c.ati * 9, none⟩)) rfl rfl (by kernel_rfl) (by kernel_rfl) (by kernel_rfl) (fun _ _ _ h => h) (.inl ⟨by rfl, fun W hW => by go_simp⟩) HS.out ?_
    simp only [Act.put, List.setIfInBounds_toArray, List.set_cons_zero, List.set_cons_succ]
    refine takeH (i := 7) 56 (.pointer (some ⟨g, c.ati * 9 + 8, none⟩)) rfl rfl (by kernel_rfl) (by kernel_rfl) (by kernel_rfl) (fun _ _ _ h => h) (.inl ⟨by rfl, fun W hW => by go_simp⟩) HS.out ?_
    simp only [Act.put, List.setIfInBounds_toArray, List.set_cons_zero, List.set_cons_succ]
    refine takeH (i := 10) 59 (.int .i64 (c.off : Int)) rfl rfl (by kernel_rfl) (by kernel_rfl) (by kernel_rfl) (fun _ _ _ h => h) (.inl ⟨by rfl, fun W hW => by go_simp⟩) HS.out ?_
    simp only [Act.put, List.setIfInBounds_toArray, List.set_cons_zero, List.set_cons_succ]
    refine takeH (i := 11) 60 (.pointer (some ⟨p, 0, none⟩)) rfl rfl (by kernel_rfl) (by kernel_rfl) (by kernel_rfl) (fun _ _ _ h => h) (.inl ⟨by rfl, fun W hW => by go_simp⟩) HS.out ?_
    simp only [Act.put, List.setIfInBounds_toArray, List.set_cons_zero, List.set_cons_succ]
    refine takeH (i := 12) 61 (.pointer (some ⟨p, 0, none⟩)) rfl rfl (by kernel_rfl) (by kernel_rfl) (by kernel_rfl) (fun _ _ _ h => h) (.inl ⟨by rfl, fun W hW => by go_simp⟩) HS.out ?_
    simp only [Act.put, List.setIfInBounds_toArray, List.set_cons_zero, List.set_cons_succ]
    refine takeH (i := 13) 62 (.pointer (some ⟨p, 3, none⟩)) rfl rfl (by kernel_rfl) (by kernel_rfl) (by kernel_rfl) (fun _ _ _ h => h) (.inl ⟨by rfl, fun W hW => by go_simp⟩) HS.out ?_
    simp only [Act.put, List.setIfInBounds_toArray, List.set_cons_zero, List.set_cons_succ]
    refine takeH (i := 14) 63 (.pointer (some ⟨p, 16, none⟩)) rfl rfl (by kernel_rfl) (by kernel_rfl) (by kernel_rfl) (fun _ _ _ h => h) (.inl ⟨by rfl, fun W hW => by go_simp⟩) HS.out ?_
    simp only [Act.put, List.setIfInBounds_toArray, List.set_cons_zero, List.set_cons_succ]
    refine takeH (i := 15) 64 (.slice B n d) rfl rfl (by kernel_rfl) (by kernel_rfl) (by kernel_rfl) (fun _ _ _ h => h) (.inl ⟨by rfl, fun W hW => by (have hz := hW; go_simp)⟩) HS.out ?_
    simp only [Act.put, List.setIfInBounds_toArray, List.set_cons_zero, List.set_cons_succ]
    refine takeH (i := 16) 65 (.int .i64 (n : Int)) rfl rfl (by kernel_rfl) (by kernel_rfl) (by kernel_rfl) (fun _ _ _ h => h) (.inl ⟨by rfl, fun W hW => by go_simp⟩) HS.out ?_
    simp only [Act.put, List.setIfInBounds_toArray, List.set_cons_zero, List.set_cons_succ]
    refine takeH (i := 17) 66 (.int .i64 (T : Int)) rfl rfl (by kernel_rfl) (by kernel_rfl) (by kernel_rfl) (fun _ _ _ h => h) (.inl ⟨by rfl, fun W hW => by (have hT := HTT.out; go_simp; rw [IntWalk.i64_in _ (by omega)]; try omega)⟩) HS.out ?_
    simp only [Act.put, List.setIfInBounds_toArray, List.set_cons_zero, List.set_cons_succ]
    refine wpAnyH_ready (rs := [4, 8]) (by kernel_rfl) (by simp) ?_
    refine AllReadyH.cons rfl (fun K hK => ?_) (AllReadyH.cons rfl (fun K hK => ?_) AllReadyH.nil)
    · have k8 := HK8.out wd HXd.out
      go_simp
      refine hK.out _ _ HS.out fun _ => ?_
      clear hK K
      refine wpAnyH_ready (rs := [8]) (by kernel_rfl) (by simp) ?_
      refine AllReadyH.cons rfl (fun K hK => ?_) AllReadyH.nil
      go_simp
      refine hK.out _ _ HS.out fun _ => ?_
      clear hK K k8
      refine takeH (i := 9) 58 (.int .i64 (x : Int)) rfl rfl (by kernel_rfl) (by kernel_rfl) (by kernel_rfl) (fun _ _ _ h => h) (.inl ⟨by rfl, fun W hW => by go_simp⟩) HS.out ?_
      simp only [Act.put, List.setIfInBounds_toArray, List.set_cons_zero, List.set_cons_succ]
      refine takeH (i := 18) 67 (.int .i64 (N2 : Int)) rfl rfl (by kernel_rfl) (by kernel_rfl) (by kernel_rfl) (fun _ _ _ h => h) (.inl ⟨by rfl, fun W hW => by (have hN2 := HN2.out; go_simp; omega)⟩) HS.out ?_
      simp only [Act.put, List.setIfInBounds_toArray, List.set_cons_zero, List.set_cons_succ]
      refine wpAnyH_ready (rs := [19]) (by kernel_rfl) (by simp) ?_
      refine AllReadyH.cons rfl (fun K hK => ?_) AllReadyH.nil
      go_simp
      refine (resized_any A x y N2 (t.s c.ati).dt wd HDB.out (by omega) (by omega)).mono ?_
      rintro e w4 ⟨rfl, h1, h2⟩
      have HX4 := Lib.hid (HXd.out.below h2)
      have HB4 := Lib.hid h1
      have HS3 : Hid ((fun W : World => W.cell? ⟨p, 16, none⟩ = some (.slice B n d)) w4) := HX4.out.cellR 16 _ rfl
      refine hK.out _ _ HS3.out fun _ => ?_
      clear hK K h1 h2 HS
      obtain ⟨G, hG⟩ : ∃ G, G = wd.heap.size := ⟨_, rfl⟩
      have HGG : Hid (w0.heap.size ≤ G ∧ G ≠ p ∧ G ≠ g) := by
        have e1 := HXd.out.sx.lt
        have e2 := HXd.out.run.lt
        have e3 := HXd.out.bel.size
        exact ⟨by omega, by omega, by omega⟩
      have HOT : Hid (∀ j, j < 24 → j ≠ c.ati → Off G (Vl.upd sl c.ati ⟨some ⟨G, 0, none⟩, N2, N2⟩ j).a (Vl.upd sl c.ati ⟨some ⟨G, 0, none⟩, N2, N2⟩ j).n) := fun j hj hne => by
        rw [Vl.upd_other _ _ hne, hG]
        exact (HXd.out.sx.bs j hj).1.off_new (Nat.le_refl _)
      rw [← hG] at HB4 ⊢
      clear hG HXd HDB
      refine takeH (i := 20) 69 (.pointer (some ⟨g, c.ati * 9, none⟩)) rfl rfl (by kernel_rfl) (by kernel_rfl) (by kernel_rfl) (fun _ _ _ h => h) (.inl ⟨by rfl, fun W hW => by go_simp⟩) HS3.out ?_
      simp only [Act.put, List.setIfInBounds_toArray, List.set_cons_zero, List.set_cons_succ]
      refine takeH (i := 21) 70 (.pointer (some ⟨g, c.ati * 9 + 8, none⟩)) rfl rfl (by kernel_rfl) (by kernel_rfl) (by kernel_rfl) (fun _ _ _ h => h) (.inl ⟨by rfl, fun W hW => by go_simp⟩) HS3.out ?_
      simp only [Act.put, List.setIfInBounds_toArray, List.set_cons_zero, List.set_cons_succ]
      refine wpAnyH_ready (rs := [22]) (by kernel_rfl) (by simp) ?_
      refine AllReadyH.cons rfl (fun K hK => ?_) AllReadyH.nil
      have k9 := HK8.out w4 HX4.out
      have f9 := HX4.out.frozS (c.ati * 9 + 8)
      go_simp
      have HBS4 : Hid (BS w4 (some ⟨G, 0, none⟩) N2 (Op.sized (t.s c.ati).dt N2)) := by
        have := BS.ofB HB4.out
        rw [Op.sized_len] at this
        exact this
      have HX5 : Hid (RX w0 (w4.setCell ⟨g, c.ati * 9 + 8, none⟩ (.slice (some ⟨G, 0, none⟩) N2 N2)) p g k (Op.set t c.ati { t.s c.ati with dt := Op.sized (t.s c.ati).dt N2 }) (Vl.upd sl c.ati ⟨some ⟨G, 0, none⟩, N2, N2⟩) c B n d (Op.rep0 c) none 0 0 none 0 0) :=
        HX4.out.setS HIA.out.1 8 (by omega) (.slice (some ⟨G, 0, none⟩) N2 N2) (x := { t.s c.ati with dt := Op.sized (t.s c.ati).dt N2 }) (s := ⟨some ⟨G, 0, none⟩, N2, N2⟩) rfl HBS4.out (Nat.le_refl _) (fun _ ad e => by injection e with e; subst e; exact HGG.out.2.2)
      have HB5 : Hid (Bw (w4.setCell ⟨g, c.ati * 9 + 8, none⟩ (.slice (some ⟨G, 0, none⟩) N2 N2)) G (bc (Op.sized (t.s c.ati).dt N2)) 5) := HB4.out.off (by show G ≠ g; exact HGG.out.2.2) _
      have HS5 : Hid ((fun W : World => W.cell? ⟨p, 16, none⟩ = some (.slice B n d)) (w4.setCell ⟨g, c.ati * 9 + 8, none⟩ (.slice (some ⟨G, 0, none⟩) N2 N2))) := HX5.out.cellR 16 _ rfl
      refine hK.out _ _ HS5.out fun _ => ?_
      generalize w4.setCell ⟨g, c.ati * 9 + 8, none⟩ (.slice (some ⟨G, 0, none⟩) N2 N2) = w5 at *
      clear hK K k9 f9 HX4 HB4 HBS4 HS3 HS5 HK8
      refine wpAnyH_done (by kernel_rfl) ?_ _
      go_upto_region 6 with fail
      have HQQ : Hid (c.off + n ≤ N2 ∧ N2 = max x (c.off + n)) := by
        have h1 := HTT.out
        have h2 := HN2.out
        exact ⟨by omega, by rw [h2, h1]⟩
      have hqq := HQQ.out.1
      have hBS := HX5.out.dat
      obtain ⟨b, o, hB, hcell⟩ := hBS.2 (by omega)
      subst hB
      have HCP := Lib.hid (fun ty => run_copy_row (P := Tryz.prog) w5.drew 38 38 ty 5 G c.off (N2 - c.off) (N2 - c.off) ⟨b, o, none⟩ n d (bc (Op.sized (t.s c.ati).dt N2)).toArray 5 (bc c.dt) Tryz.underlying38 size_by HB5.out (by rw [bc_length, HN.out]; exact (Nat.min_eq_left (by omega)).symm) (fun j v hv => hBS.news rfl j v hv) (by rw [bc_length, HN.out]; simp [bc_length, Op.sized_len]; omega) (bc_one _))
      have HXd := Lib.hid HX5.out.drew
      have HS6 : Hid ((fun W : World => W.cell? ⟨g, c.ati * 9 + 8, none⟩ = some (.slice (some ⟨G, 0, none⟩) N2 N2) ∧ W.cell? ⟨p, 16, none⟩ = some (.slice (some ⟨b, o, none⟩) n d)) w5.drew) := ⟨HXd.out.cellS HIA.out.1 8 _ (by rw [Op.set_at, Vl.upd_same]; rfl), HXd.out.cellR 16 _ rfl⟩
      obtain ⟨L, hL⟩ : ∃ L, L = Op.sized (t.s c.ati).dt c.off ++ c.dt ++ (t.s c.ati).dt.drop (c.off + c.dt.length) := ⟨_, rfl⟩
      have HLL := Lib.hid hL
      clear hL
      have HWR : Hid (((bc (Op.sized (t.s c.ati).dt N2)).toArray.toList.take c.off ++ bc c.dt ++ (bc (Op.sized (t.s c.ati).dt N2)).toArray.toList.drop (c.off + (bc c.dt).length)) = bc L) := by
        show _ = _
        rw [HLL.out]
        have hN2 : N2 = max (t.s c.ati).dt.length (c.off + c.dt.length) := by rw [HLX.out, HN.out]; exact HQQ.out.2
        rw [hN2]
        exact bc_write (t.s c.ati).dt c.dt c.off
      have HB6 : Hid (Bw w5.drew G (bc (Op.sized (t.s c.ati).dt N2)) 5) := HB5.out
      rw [HWR.out] at HCP
      have hne : ¬ N2 = c.off := by omega
      have hle : c.off ≤ N2 := by omega
      clear HX5 HB5 hBS hcell HWR
      refine wp_region_held_drew (S := (fun W : World => W.cell? ⟨g, c.ati * 9 + 8, none⟩ = some (.slice (some ⟨G, 0, none⟩) N2 N2) ∧ W.cell? ⟨p, 16, none⟩ = some (.slice (some ⟨b, o, none⟩) n d))) (by kernel_rfl) HS6.out (fun _ => ?_)
      change wpAnyH _ _ _ _ _ 12 (Array.replicate 12 false) _ _
      generalize w5.drew = w6 at *
      refine takeH (i := 0) 71 (.pointer (some ⟨g, c.ati * 9, none⟩)) rfl rfl (by kernel_rfl) (by kernel_rfl) (by kernel_rfl) (fun _ _ _ h => h) (.inl ⟨by rfl, fun W hW => by go_simp⟩) HS6.out ?_
      simp only [Act.put, List.setIfInBounds_toArray, List.set_cons_zero, List.set_cons_succ]
      refine takeH (i := 1) 72 (.pointer (some ⟨g, c.ati * 9, none⟩)) rfl rfl (by kernel_rfl) (by kernel_rfl) (by kernel_rfl) (fun _ _ _ h => h) (.inl ⟨by rfl, fun W hW => by go_simp⟩) HS6.out ?_
      simp only [Act.put, List.setIfInBounds_toArray, List.set_cons_zero, List.set_cons_succ]
      refine takeH (i := 2) 73 (.pointer (some ⟨g, c.ati * 9 + 8, none⟩)) rfl rfl (by kernel_rfl) (by kernel_rfl) (by kernel_rfl) (fun _ _ _ h => h) (.inl ⟨by rfl, fun W hW => by go_simp⟩) HS6.out ?_
      simp only [Act.put, List.setIfInBounds_toArray, List.set_cons_zero, List.set_cons_succ]
      refine takeH (i := 3) 74 (.slice (some ⟨G, 0, none⟩) N2 N2) rfl rfl (by kernel_rfl) (by kernel_rfl) (by kernel_rfl) (fun _ _ _ h => h) (.inl ⟨by rfl, fun W hW => by (have hz := hW.1; go_simp)⟩) HS6.out ?_
      simp only [Act.put, List.setIfInBounds_toArray, List.set_cons_zero, List.set_cons_succ]
      refine takeH (i := 4) 75 (.int .i64 (c.off : Int)) rfl rfl (by kernel_rfl) (by kernel_rfl) (by kernel_rfl) (fun _ _ _ h => h) (.inl ⟨by rfl, fun W hW => by go_simp⟩) HS6.out ?_
      simp only [Act.put, List.setIfInBounds_toArray, List.set_cons_zero, List.set_cons_succ]
      refine takeH (i := 5) 76 (.slice (some ⟨G, c.off, none⟩) (N2 - c.off) (N2 - c.off)) rfl rfl (by kernel_rfl) (by kernel_rfl) (by kernel_rfl) (fun _ _ _ h => h) (.inl ⟨by rfl, fun W hW => by (go_simp)⟩) HS6.out ?_
      simp only [Act.put, List.setIfInBounds_toArray, List.set_cons_zero, List.set_cons_succ]
      refine takeH (i := 6) 77 (.pointer (some ⟨p, 0, none⟩)) rfl rfl (by kernel_rfl) (by kernel_rfl) (by kernel_rfl) (fun _ _ _ h => h) (.inl ⟨by rfl, fun W hW => by go_simp⟩) HS6.out ?_
      simp only [Act.put, List.setIfInBounds_toArray, List.set_cons_zero, List.set_cons_succ]
      refine takeH (i := 7) 78 (.pointer (some ⟨p, 0, none⟩)) rfl rfl (by kernel_rfl) (by kernel_rfl) (by kernel_rfl) (fun _ _ _ h => h) (.inl ⟨by rfl, fun W hW => by go_simp⟩) HS6.out ?_
      simp only [Act.put, List.setIfInBounds_toArray, List.set_cons_zero, List.set_cons_succ]
      refine takeH (i := 8) 79 (.pointer (some ⟨p, 3, none⟩)) rfl rfl (by kernel_rfl) (by kernel_rfl) (by kernel_rfl) (fun _ _ _ h => h) (.inl ⟨by rfl, fun W hW => by go_simp⟩) HS6.out ?_
      simp only [Act.put, List.setIfInBounds_toArray, List.set_cons_zero, List.set_cons_succ]
      refine takeH (i := 9) 80 (.pointer (some ⟨p, 16, none⟩)) rfl rfl (by kernel_rfl) (by kernel_rfl) (by kernel_rfl) (fun _ _ _ h => h) (.inl ⟨by rfl, fun W hW => by go_simp⟩) HS6.out ?_
      simp only [Act.put, List.setIfInBounds_toArray, List.set_cons_zero, List.set_cons_succ]
      refine takeH (i := 10) 81 (.slice (some ⟨b, o, none⟩) n d) rfl rfl (by kernel_rfl) (by kernel_rfl) (by kernel_rfl) (fun _ _ _ h => h) (.inl ⟨by rfl, fun W hW => by (have hz := hW.2; go_simp)⟩) HS6.out ?_
      simp only [Act.put, List.setIfInBounds_toArray, List.set_cons_zero, List.set_cons_succ]
      refine wpAnyH_ready (rs := [11]) (by kernel_rfl) (by simp) ?_
      refine AllReadyH.cons rfl (fun K hK => ?_) AllReadyH.nil
      have hcp := HCP.out
      go_simp
      have hk7 : Keep (· ≠ G) w6 (w6.setRow G (bc L).toArray) := setRow_keep G _
      have hb7 : Bw (w6.setRow G (bc L).toArray) G (bc L) 5 := setRow_heap w6 G _ _ 5 _ HB6.out
      have HX7 : Hid (RX w0 (w6.setRow G (bc L).toArray) p g k (Op.set t c.ati { t.s c.ati with dt := L }) (Vl.upd sl c.ati ⟨some ⟨G, 0, none⟩, N2, N2⟩) c (some ⟨b, o, none⟩) n d (Op.rep0 c) none 0 0 none 0 0) := by
        have := HXd.out.fill (z := N2) HIA.out.1 HGG.out.1 HGG.out.2.1 HGG.out.2.2 HOT.out (Vl.upd_same _ _ _) hk7 (l := L) (by
          have h1 := HLX.out
          have h2 := HN.out
          have h3 := HQQ.out.2
          rw [HLL.out]
          simp only [List.length_append, Op.sized_len, List.length_drop]
          omega) hb7
        rw [Op.set_set, Op.set_at] at this
        exact this
      have HS7 : Hid ((fun W : World => W.cell? ⟨g, c.ati * 9 + 8, none⟩ = some (.slice (some ⟨G, 0, none⟩) N2 N2) ∧ W.cell? ⟨p, 16, none⟩ = some (.slice (some ⟨b, o, none⟩) n d)) (w6.setRow G (bc L).toArray)) := ⟨HX7.out.cellS HIA.out.1 8 _ (by rw [Op.set_at, Vl.upd_same]; rfl), HX7.out.cellR 16 _ rfl⟩
      refine hK.out _ _ HS7.out fun _ => ?_
      have HN9 : Hid (∀ i, i < 24 → ((Op.set t c.ati { t.s c.ati with dt := L }).s i).dt.length ≤ 1000000) := fun i hi => by
        by_cases e : i = c.ati
        · subst e
          rw [Op.set_at]
          have h1 := HLX.out
          have h2 := HN.out
          have h3 := HQQ.out.2
          show L.length ≤ _
          rw [HLL.out]
          simp only [List.length_append, Op.sized_len, List.length_drop]
          omega
        · rw [Op.set_other t _ e]; exact HSD.out.dts i hi
      have HRJ : Hid (RR = Op.fin (Op.set t c.ati { t.s c.ati with dt := L }) (Op.rep0 c) [c.ati] c.ati) := by
        rw [HLL.out]
        exact HRH.out
      generalize w6.setRow G (bc L).toArray = w7 at *
      generalize Op.set t c.ati { t.s c.ati with dt := L } = u9 at *
      clear hK K hk7 hb7 hcp HCP HXd HS6 HS7 HB6 HRH
      refine wpAnyH_done (by kernel_rfl) ?_ _
      have HCH := Lib.hid (fin_one HX7.out HIA.out.1 HN9.out rfl)
      clear HX7 HN9
      go_wp2_with fail
      refine HCH.out.mono ?_
      rintro e w10 (⟨rfl, h1, h2⟩ | ⟨rfl, h1, h2⟩)
      rotate_left
      · exact ⟨rfl, .no (HRJ.out.trans (if_pos h1)) h2⟩
      have HRZ : Hid (RR = .ok (Op.touch u9 [c.ati], Op.told (Op.touch u9 [c.ati]) (Op.rep0 c) c.ati)) := HRJ.out.trans (if_neg h1)
      have HRE := Lib.hid (report_any h2 HIA.out.1)
      clear h1 h2 HCH HRJ
      generalize Op.touch u9 [c.ati] = v at *
      go_wp2_with fail
      refine HRE.out.mono ?_
      rintro e w11 ⟨rfl, h1, h2⟩
      have HX11 := Lib.hid h1
      clear h1 h2 HRE
      go_wp2_with fail
      go_end0
      exact .ok HRZ.out HX11.out (RM.none rfl rfl)
    · have k8 := HK8.out wd HXd.out
      go_simp
      refine hK.out _ _ HS.out fun _ => ?_
      clear hK K
      refine takeH (i := 9) 58 (.int .i64 (x : Int)) rfl rfl (by kernel_rfl) (by kernel_rfl) (by kernel_rfl) (fun _ _ _ h => h) (.inl ⟨by rfl, fun W hW => by go_simp⟩) HS.out ?_
      simp only [Act.put, List.setIfInBounds_toArray, List.set_cons_zero, List.set_cons_succ]
      refine takeH (i := 18) 67 (.int .i64 (N2 : Int)) rfl rfl (by kernel_rfl) (by kernel_rfl) (by kernel_rfl) (fun _ _ _ h => h) (.inl ⟨by rfl, fun W hW => by (have hN2 := HN2.out; go_simp; omega)⟩) HS.out ?_
      simp only [Act.put, List.setIfInBounds_toArray, List.set_cons_zero, List.set_cons_succ]
      refine wpAnyH_ready (rs := [4]) (by kernel_rfl) (by simp) ?_
      refine AllReadyH.cons rfl (fun K hK => ?_) AllReadyH.nil
      go_simp
      refine hK.out _ _ HS.out fun _ => ?_
      clear hK K k8
      refine wpAnyH_ready (rs := [19]) (by kernel_rfl) (by simp) ?_
      refine AllReadyH.cons rfl (fun K hK => ?_) AllReadyH.nil
      go_simp
      refine (resized_any A x y N2 (t.s c.ati).dt wd HDB.out (by omega) (by omega)).mono ?_
      rintro e w4 ⟨rfl, h1, h2⟩
      have HX4 := Lib.hid (HXd.out.below h2)
      have HB4 := Lib.hid h1
      have HS3 : Hid ((fun W : World => W.cell? ⟨p, 16, none⟩ = some (.slice B n d)) w4) := HX4.out.cellR 16 _ rfl
      refine hK.out _ _ HS3.out fun _ => ?_
      clear hK K h1 h2 HS
      obtain ⟨G, hG⟩ : ∃ G, G = wd.heap.size := ⟨_, rfl⟩
      have HGG : Hid (w0.heap.size ≤ G ∧ G ≠ p ∧ G ≠ g) := by
        have e1 := HXd.out.sx.lt
        have e2 := HXd.out.run.lt
        have e3 := HXd.out.bel.size
        exact ⟨by omega, by omega, by omega⟩
      have HOT : Hid (∀ j, j < 24 → j ≠ c.ati → Off G (Vl.upd sl c.ati ⟨some ⟨G, 0, none⟩, N2, N2⟩ j).a (Vl.upd sl c.ati ⟨some ⟨G, 0, none⟩, N2, N2⟩ j).n) := fun j hj hne => by
        rw [Vl.upd_other _ _ hne, hG]
        exact (HXd.out.sx.bs j hj).1.off_new (Nat.le_refl _)
      rw [← hG] at HB4 ⊢
      clear hG HXd HDB
      refine takeH (i := 20) 69 (.pointer (some ⟨g, c.ati * 9, none⟩)) rfl rfl (by kernel_rfl) (by kernel_rfl) (by kernel_rfl) (fun _ _ _ h => h) (.inl ⟨by rfl, fun W hW => by go_simp⟩) HS3.out ?_
      simp only [Act.put, List.setIfInBounds_toArray, List.set_cons_zero, List.set_cons_succ]
      refine takeH (i := 21) 70 (.pointer (some ⟨g, c.ati * 9 + 8, none⟩)) rfl rfl (by kernel_rfl) (by kernel_rfl) (by kernel_rfl) (fun _ _ _ h => h) (.inl ⟨by rfl, fun W hW => by go_simp⟩) HS3.out ?_
      simp only [Act.put, List.setIfInBounds_toArray, List.set_cons_zero, List.set_cons_succ]
      refine wpAnyH_ready (rs := [22]) (by kernel_rfl) (by simp) ?_
      refine AllReadyH.cons rfl (fun K hK => ?_) AllReadyH.nil
      have k9 := HK8.out w4 HX4.out
      have f9 := HX4.out.frozS (c.ati * 9 + 8)
      go_simp
      have HBS4 : Hid (BS w4 (some ⟨G, 0, none⟩) N2 (Op.sized (t.s c.ati).dt N2)) := by
        have := BS.ofB HB4.out
        rw [Op.sized_len] at this
        exact this
      have HX5 : Hid (RX w0 (w4.setCell ⟨g, c.ati * 9 + 8, none⟩ (.slice (some ⟨G, 0, none⟩) N2 N2)) p g k (Op.set t c.ati { t.s c.ati with dt := Op.sized (t.s c.ati).dt N2 }) (Vl.upd sl c.ati ⟨some ⟨G, 0, none⟩, N2, N2⟩) c B n d (Op.rep0 c) none 0 0 none 0 0) :=
        HX4.out.setS HIA.out.1 8 (by omega) (.slice (some ⟨G, 0, none⟩) N2 N2) (x := { t.s c.ati with dt := Op.sized (t.s c.ati).dt N2 }) (s := ⟨some ⟨G, 0, none⟩, N2, N2⟩) rfl HBS4.out (Nat.le_refl _) (fun _ ad e => by injection e with e; subst e; exact HGG.out.2.2)
      have HB5 : Hid (Bw (w4.setCell ⟨g, c.ati * 9 + 8, none⟩ (.slice (some ⟨G, 0, none⟩) N2 N2)) G (bc (Op.sized (t.s c.ati).dt N2)) 5) := HB4.out.off (by show G ≠ g; exact HGG.out.2.2) _
      have HS5 : Hid ((fun W : World => W.cell? ⟨p, 16, none⟩ = some (.slice B n d)) (w4.setCell ⟨g, c.ati * 9 + 8, none⟩ (.slice (some ⟨G, 0, none⟩) N2 N2))) := HX5.out.cellR 16 _ rfl
      refine hK.out _ _ HS5.out fun _ => ?_
      generalize w4.setCell ⟨g, c.ati * 9 + 8, none⟩ (.slice (some ⟨G, 0, none⟩) N2 N2) = w5 at *
      clear hK K k9 f9 HX4 HB4 HBS4 HS3 HS5 HK8
      refine wpAnyH_done (by kernel_rfl) ?_ _
      go_upto_region 6 with fail
      have HQQ : Hid (c.off + n ≤ N2 ∧ N2 = max x (c.off + n)) := by
        have h1 := HTT.out
        have h2 := HN2.out
        exact ⟨by omega, by rw [h2, h1]⟩
      have hqq := HQQ.out.1
      have hBS := HX5.out.dat
      obtain ⟨b, o, hB, hcell⟩ := hBS.2 (by omega)
      subst hB
      have HCP := Lib.hid (fun ty => run_copy_row (P := Tryz.prog) w5.drew 38 38 ty 5 G c.off (N2 - c.off) (N2 - c.off) ⟨b, o, none⟩ n d (bc (Op.sized (t.s c.ati).dt N2)).toArray 5 (bc c.dt) Tryz.underlying38 size_by HB5.out (by rw [bc_length, HN.out]; exact (Nat.min_eq_left (by omega)).symm) (fun j v hv => hBS.news rfl j v hv) (by rw [bc_length, HN.out]; simp [bc_length, Op.sized_len]; omega) (bc_one _))
      have HXd := Lib.hid HX5.out.drew
      have HS6 : Hid ((fun W : World => W.cell? ⟨g, c.ati * 9 + 8, none⟩ = some (.slice (some ⟨G, 0, none⟩) N2 N2) ∧ W.cell? ⟨p, 16, none⟩ = some (.slice (some ⟨b, o, none⟩) n d)) w5.drew) := ⟨HXd.out.cellS HIA.out.1 8 _ (by rw [Op.set_at, Vl.upd_same]; rfl), HXd.out.cellR 16 _ rfl⟩
      obtain ⟨L, hL⟩ : ∃ L, L = Op.sized (t.s c.ati).dt c.off ++ c.dt ++ (t.s c.ati).dt.drop (c.off + c.dt.length) := ⟨_, rfl⟩
      have HLL := Lib.hid hL
      clear hL
      have HWR : Hid (((bc (Op.sized (t.s c.ati).dt N2)).toArray.toList.take c.off ++ bc c.dt ++ (bc (Op.sized (t.s c.ati).dt N2)).toArray.toList.drop (c.off + (bc c.dt).length)) = bc L) := by
        show _ = _
        rw [HLL.out]
        have hN2 : N2 = max (t.s c.ati).dt.length (c.off + c.dt.length) := by rw [HLX.out, HN.out]; exact HQQ.out.2
        rw [hN2]
        exact bc_write (t.s c.ati).dt c.dt c.off
      have HB6 : Hid (Bw w5.drew G (bc (Op.sized (t.s c.ati).dt N2)) 5) := HB5.out
      rw [HWR.out] at HCP
      have hne : ¬ N2 = c.off := by omega
      have hle : c.off ≤ N2 := by omega
      clear HX5 HB5 hBS hcell HWR
      refine wp_region_held_drew (S := (fun W : World => W.cell? ⟨g, c.ati * 9 + 8, none⟩ = some (.slice (some ⟨G, 0, none⟩) N2 N2) ∧ W.cell? ⟨p, 16, none⟩ = some (.slice (some ⟨b, o, none⟩) n d))) (by kernel_rfl) HS6.out (fun _ => ?_)
      change wpAnyH _ _ _ _ _ 12 (Array.replicate 12 false) _ _
      generalize w5.drew = w6 at *
      refine takeH (i := 0) 71 (.pointer (some ⟨g, c.ati * 9, none⟩)) rfl rfl (by kernel_rfl) (by kernel_rfl) (by kernel_rfl) (fun _ _ _ h => h) (.inl ⟨by rfl, fun W hW => by go_simp⟩) HS6.out ?_
      simp only [Act.put, List.setIfInBounds_toArray, List.set_cons_zero, List.set_cons_succ]
      refine takeH (i := 1) 72 (.pointer (some ⟨g, c.ati * 9, none⟩)) rfl rfl (by kernel_rfl) (by kernel_rfl) (by kernel_rfl) (fun _ _ _ h => h) (.inl ⟨by rfl, fun W hW => by go_simp⟩) HS6.out ?_
      simp only [Act.put, List.setIfInBounds_toArray, List.set_cons_zero, List.set_cons_succ]
      refine takeH (i := 2) 73 (.pointer (some ⟨g, c.ati * 9 + 8, none⟩)) rfl rfl (by kernel_rfl) (by kernel_rfl) (by kernel_rfl) (fun _ _ _ h => h) (.inl ⟨by rfl, fun W hW => by go_simp⟩) HS6.out ?_
      simp only [Act.put, List.setIfInBounds_toArray, List.set_cons_zero, List.set_cons_succ]
      refine takeH (i := 3) 74 (.slice (some ⟨G, 0, none⟩) N2 N2) rfl rfl (by kernel_rfl) (by kernel_rfl) (by kernel_rfl) (fun _ _ _ h => h) (.inl ⟨by rfl, fun W hW => by (have hz := hW.1; go_simp)⟩) HS6.out ?_
      simp only [Act.put, List.setIfInBounds_toArray, List.set_cons_zero, List.set_cons_succ]
      refine takeH (i := 4) 75 (.int .i64 (c.off : Int)) rfl rfl (by kernel_rfl) (by kernel_rfl) (by kernel_rfl) (fun _ _ _ h => h) (.inl ⟨by rfl, fun W hW => by go_simp⟩) HS6.out ?_
      simp only [Act.put, List.setIfInBounds_toArray, List.set_cons_zero, List.set_cons_succ]
      refine takeH (i := 5) 76 (.slice (some ⟨G, c.off, none⟩) (N2 - c.off) (N2 - c.off)) rfl rfl (by kernel_rfl) (by kernel_rfl) (by kernel_rfl) (fun _ _ _ h => h) (.inl ⟨by rfl, fun W hW => by (go_simp)⟩) HS6.out ?_
      simp only [Act.put, List.setIfInBounds_toArray, List.set_cons_zero, List.set_cons_succ]
      refine takeH (i := 6) 77 (.pointer (some ⟨p, 0, none⟩)) rfl rfl (by kernel_rfl) (by kernel_rfl) (by kernel_rfl) (fun _ _ _ h => h) (.inl ⟨by rfl, fun W hW => by go_simp⟩) HS6.out ?_
      simp only [Act.put, List.setIfInBounds_toArray, List.set_cons_zero, List.set_cons_succ]
      refine takeH (i := 7) 78 (.pointer (some ⟨p, 0, none⟩)) rfl rfl (by kernel_rfl) (by kernel_rfl) (by kernel_rfl) (fun _ _ _ h => h) (.inl ⟨by rfl, fun W hW => by go_simp⟩) HS6.out ?_
      simp only [Act.put, List.setIfInBounds_toArray, List.set_cons_zero, List.set_cons_succ]
      refine takeH (i := 8) 79 (.pointer (some ⟨p, 3, none⟩)) rfl rfl (by kernel_rfl) (by kernel_rfl) (by kernel_rfl) (fun _ _ _ h => h) (.inl ⟨by rfl, fun W hW => by go_simp⟩) HS6.out ?_
      simp only [Act.put, List.setIfInBounds_toArray, List.set_cons_zero, List.set_cons_succ]
      refine takeH (i := 9) 80 (.pointer (some ⟨p, 16, none⟩)) rfl rfl (by kernel_rfl) (by kernel_rfl) (by kernel_rfl) (fun _ _ _ h => h) (.inl ⟨by rfl, fun W hW => by go_simp⟩) HS6.out ?_
      simp only [Act.put, List.setIfInBounds_toArray, List.set_cons_zero, List.set_cons_succ]
      refine takeH (i := 10) 81 (.slice (some ⟨b, o, none⟩) n d) rfl rfl (by kernel_rfl) (by kernel_rfl) (by kernel_rfl) (fun _ _ _ h => h) (.inl ⟨by rfl, fun W hW => by (have hz := hW.2; go_simp)⟩) HS6.out ?_
      simp only [Act.put, List.setIfInBounds_toArray, List.set_cons_zero, List.set_cons_succ]
      refine wpAnyH_ready (rs := [11]) (by kernel_rfl) (by simp) ?_
      refine AllReadyH.cons rfl (fun K hK => ?_) AllReadyH.nil
      have hcp := HCP.out
      go_simp
      have hk7 : Keep (· ≠ G) w6 (w6.setRow G (bc L).toArray) := setRow_keep G _
      have hb7 : Bw (w6.setRow G (bc L).toArray) G (bc L) 5 := setRow_heap w6 G _ _ 5 _ HB6.out
      have HX7 : Hid (RX w0 (w6.setRow G (bc L).toArray) p g k (Op.set t c.ati { t.s c.ati with dt := L }) (Vl.upd sl c.ati ⟨some ⟨G, 0, none⟩, N2, N2⟩) c (some ⟨b, o, none⟩) n d (Op.rep0 c) none 0 0 none 0 0) := by
        have := HXd.out.fill (z := N2) HIA.out.1 HGG.out.1 HGG.out.2.1 HGG.out.2.2 HOT.out (Vl.upd_same _ _ _) hk7 (l := L) (by
          have h1 := HLX.out
          have h2 := HN.out
          have h3 := HQQ.out.2
          rw [HLL.out]
          simp only [List.length_append, Op.sized_len, List.length_drop]
          omega) hb7
        rw [Op.set_set, Op.set_at] at this
        exact this
      have HS7 : Hid ((fun W : World => W.cell? ⟨g, c.ati * 9 + 8, none⟩ = some (.slice (some ⟨G, 0, none⟩) N2 N2) ∧ W.cell? ⟨p, 16, none⟩ = some (.slice (some ⟨b, o, none⟩) n d)) (w6.setRow G (bc L).toArray)) := ⟨HX7.out.cellS HIA.out.1 8 _ (by rw [Op.set_at, Vl.upd_same]; rfl), HX7.out.cellR 16 _ rfl⟩
      refine hK.out _ _ HS7.out fun _ => ?_
      have HN9 : Hid (∀ i, i < 24 → ((Op.set t c.ati { t.s c.ati with dt := L }).s i).dt.length ≤ 1000000) := fun i hi => by
        by_cases e : i = c.ati
        · subst e
          rw [Op.set_at]
          have h1 := HLX.out
          have h2 := HN.out
          have h3 := HQQ.out.2
          show L.length ≤ _
          rw [HLL.out]
          simp only [List.length_append, Op.sized_len, List.length_drop]
          omega
        · rw [Op.set_other t _ e]; exact HSD.out.dts i hi
      have HRJ : Hid (RR = Op.fin (Op.set t c.ati { t.s c.ati with dt := L }) (Op.rep0 c) [c.ati] c.ati) := by
        rw [HLL.out]
        exact HRH.out
      generalize w6.setRow G (bc L).toArray = w7 at *
      generalize Op.set t c.ati { t.s c.ati with dt := L } = u9 at *
      clear hK K hk7 hb7 hcp HCP HXd HS6 HS7 HB6 HRH
      refine wpAnyH_done (by kernel_rfl) ?_ _
      have HCH := Lib.hid (fin_one HX7.out HIA.out.1 HN9.out rfl)
      clear HX7 HN9
      go_wp2_with fail
      refine HCH.out.mono ?_
      rintro e w10 (⟨rfl, h1, h2⟩ | ⟨rfl, h1, h2⟩)
      rotate_left
      · exact ⟨rfl, .no (HRJ.out.trans (if_pos h1)) h2⟩
      have HRZ : Hid (RR = .ok (Op.touch u9 [c.ati], Op.told (Op.touch u9 [c.ati]) (Op.rep0 c) c.ati)) := HRJ.out.trans (if_neg h1)
      have HRE := Lib.hid (report_any h2 HIA.out.1)
      clear h1 h2 HCH HRJ
      generalize Op.touch u9 [c.ati] = v at *
      go_wp2_with fail
      refine HRE.out.mono ?_
      rintro e w11 ⟨rfl, h1, h2⟩
      have HX11 := Lib.hid h1
      clear h1 h2 HRE
      go_wp2_with fail
      go_end0
      exact .ok HRZ.out HX11.out (RM.none rfl rfl)
end
end Go.Proofs.YtpbpdnjlomhkdaaGreat
