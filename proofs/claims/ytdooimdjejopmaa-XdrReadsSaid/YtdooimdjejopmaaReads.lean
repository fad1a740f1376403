/-
  Contracts of the nil Reader; the law's own variable beside a Reader.
-/
import Derived.Test.YtdooimdjejopmaaRefR2
namespace Go.Proofs.Ytdooimdjejopmaa
open Go.RowKit

/-! The nil Reader. -/
theorem read32_nil (w : World) (n : Int) : Calls Try.prog 39 #[.pointer none, .int .i64 n] w fun en w' => en = .returned (.int .u32 0) ∧ w = w' := by
  go_enter Try.func39, Try.ntmps39
  go_wp2_with fail
  refine (err_nil w).mono ?_
  rintro en w' ⟨rfl, rfl⟩
  go_wp2_with fail
  go_ret
  exact ⟨rfl, rfl⟩
theorem read64_nil (w : World) (n : Int) : Calls Try.prog 42 #[.pointer none, .int .i64 n] w fun en w' => en = .returned (.int .u64 0) ∧ w = w' := by
  go_enter Try.func42, Try.ntmps42
  go_wp2_with fail
  refine (err_nil w).mono ?_
  rintro en w' ⟨rfl, rfl⟩
  go_wp2_with fail
  go_ret
  exact ⟨rfl, rfl⟩
theorem u32r_nil (w : World) : Calls Try.prog 23 #[.pointer none] w fun en w' => en = .returned (.int .u32 0) ∧ w = w' := by
  go_enter Try.func23, Try.ntmps23
  go_wp2_with fail
  refine (read32_nil w 4).mono ?_
  rintro en w' ⟨rfl, rfl⟩
  go_wp2_with fail
  go_ret
  exact ⟨rfl, rfl⟩
theorem u64r_nil (w : World) : Calls Try.prog 25 #[.pointer none] w fun en w' => en = .returned (.int .u64 0) ∧ w = w' := by
  go_enter Try.func25, Try.ntmps25
  go_wp2_with fail
  refine (read64_nil w 8).mono ?_
  rintro en w' ⟨rfl, rfl⟩
  go_wp2_with fail
  go_ret
  exact ⟨rfl, rfl⟩
theorem boolr_nil (w : World) : Calls Try.prog 27 #[.pointer none] w fun en w' => en = .returned (.bool false) ∧ w = w' := by
  go_enter Try.func27, Try.ntmps27
  go_wp2_with fail
  refine (u32r_nil w).mono ?_
  rintro en w' ⟨rfl, rfl⟩
  go_wp2_with fail
  go_ret
  exact ⟨rfl, rfl⟩
theorem opaquer_nil (w : World) (m : Int) : Calls Try.prog 29 #[.pointer none, .int .i64 m] w fun en w' => en = .returned (.slice none 0 0) ∧ w = w' := by
  go_enter Try.func29, Try.ntmps29
  go_wp2_with fail
  refine (u32r_nil w).mono ?_
  rintro en w' ⟨rfl, rfl⟩
  go_wp2_with fail
  refine (err_nil w).mono ?_
  rintro en w' ⟨rfl, rfl⟩
  go_wp2_with fail
  go_ret
  exact ⟨rfl, rfl⟩
theorem end_nil (w : World) : Calls Try.prog 32 #[.pointer none] w fun en w' => en = .returned (.int .i64 1) ∧ w = w' := by
  go_enter Try.func32, Try.ntmps32
  go_wp2_with fail
  refine (err_nil w).mono ?_
  rintro en w' ⟨rfl, rfl⟩
  go_wp2_with fail
  refine (err_nil w).mono ?_
  rintro en w' ⟨rfl, rfl⟩
  go_wp2_with fail
  go_ret
  exact ⟨rfl, rfl⟩

/-! The law's own variable beside the Reader. -/
section
variable {w w' : World} {q g : Nat} {l : List UInt8} {e : Int} {a b : Value}
theorem Two.ne_rd (h : Two w g a b) (hr : Rd w q l e) : g ≠ q := by
  rintro rfl
  obtain ⟨A, c, hr⟩ := hr
  have h1 := hr.1
  unfold Two at h
  rw [h] at h1
  injection h1 with h1
  injection h1 with _ h1 _
  cases h1
theorem Two.rd (h : Two w g a b) (hr : Rd w q l e) (hg : w.grownBy w' (some q)) : Two w' g a b :=
  (hg.block g h.lt (fun e => h.ne_rd hr (by injection e))).trans h
/-- A store into the law's own variable leaves the Reader as it was. -/
theorem Rd.beside {l' : List UInt8} {e' : Int} (hr : Rd w q l e) (h : Two w g (.string (txt l')) (.int .i64 e')) (o : Nat) (u : Value) : Rd (w.setCell ⟨g, o, none⟩ u) q l e := by
  have hne := h.ne_rd hr
  obtain ⟨A, c, hr⟩ := hr
  have hnb : ∀ o z, w.cell? ⟨g, o, none⟩ ≠ some (.int .u8 z) := by
    intro o z hz
    rw [cell_of_row w g o _ _ (0, 0) h] at hz
    match o, hz with
    | 0, hz => simp at hz
    | 1, hz => simp at hz
    | o + 2, hz => simp at hz
  exact ⟨A, c, (Below.heap_setCell w ⟨g, o, none⟩ u q (fun e => hne e.symm)).trans hr.1, hr.2.1, hr.2.2.1, hr.2.2.2.off hnb (fun k hk hkg => Below.heap_setCell w ⟨g, o, none⟩ u k hkg)⟩
theorem BS.beside {l' : List UInt8} {e' : Int} {A : Option Addr} {n : Nat} {c : List UInt8} (hb : BS w A n c) (h : Two w g (.string (txt l')) (.int .i64 e')) (o : Nat) (u : Value) : BS (w.setCell ⟨g, o, none⟩ u) A n c := by
  have hnb : ∀ o z, w.cell? ⟨g, o, none⟩ ≠ some (.int .u8 z) := by
    intro o z hz
    rw [cell_of_row w g o _ _ (0, 0) h] at hz
    match o, hz with
    | 0, hz => simp at hz
    | 1, hz => simp at hz
    | o + 2, hz => simp at hz
  exact hb.off hnb (fun k hk hkg => Below.heap_setCell w ⟨g, o, none⟩ u k hkg)
theorem Rd.alloc (hr : Rd w q l e) (o : Obj) : Rd (w.alloc o) q l e := hr.kept ((Below.refl _ _).alloc (Nat.le_refl _) _)
theorem Two.alloc (h : Two w g a b) (o : Obj) : Two (w.alloc o) g a b := (Below.heap_alloc w o g h.lt).trans h
end
/-- What a round leaves: the law's variable has the document's new reader, the Reader is as it was told. -/
theorem round_end {w0 w : World} {q g : Nat} {l l0 : List UInt8} {e e0 : Int} (hr : Rd w q l e) (h : Two w g (.string (txt l0)) (.int .i64 e0)) (hk : Keep (· < w0.heap.size) w0 w) (hg : w0.heap.size ≤ g) (o : Obj) :
    Rd (((w.setCell ⟨g, 0, none⟩ (.string (txt l))).setCell ⟨g, 1, none⟩ (.int .i64 e)).alloc o) q l e ∧ Two (((w.setCell ⟨g, 0, none⟩ (.string (txt l))).setCell ⟨g, 1, none⟩ (.int .i64 e)).alloc o) g (.string (txt l)) (.int .i64 e) ∧
      Keep (· < w0.heap.size) w0 (((w.setCell ⟨g, 0, none⟩ (.string (txt l))).setCell ⟨g, 1, none⟩ (.int .i64 e)).alloc o) := by
  have h2 : Two (w.setCell ⟨g, 0, none⟩ (.string (txt l))) g (.string (txt l)) (.int .i64 e0) := by
    unfold Two at *
    simp [World.setCell, Array.getElem?_modify, h]
  refine ⟨((hr.beside h 0 _).beside h2 1 _).alloc o, h.set2.alloc o, ?_⟩
  have k1 := (hk.setCell (p := ⟨g, 0, none⟩) (by show ¬ g < _; omega) (.string (txt l))).setCell (p := ⟨g, 1, none⟩) (by show ¬ g < _; omega) (.int .i64 e)
  exact k1.alloc (fun k hk' => Nat.lt_of_lt_of_le hk' k1.size) o
theorem round_bs {w : World} {g : Nat} {l l0 : List UInt8} {e e0 : Int} {A : Option Addr} {n : Nat} {c : List UInt8} (hb : BS w A n c) (h : Two w g (.string (txt l0)) (.int .i64 e0)) (o : Obj) :
    BS (((w.setCell ⟨g, 0, none⟩ (.string (txt l))).setCell ⟨g, 1, none⟩ (.int .i64 e)).alloc o) A n c := by
  have h2 : Two (w.setCell ⟨g, 0, none⟩ (.string (txt l))) g (.string (txt l)) (.int .i64 e0) := by
    unfold Two at *
    simp [World.setCell, Array.getElem?_modify, h]
  exact ((hb.beside h 0 _).beside h2 1 _).alloc o
end Go.Proofs.Ytdooimdjejopmaa
