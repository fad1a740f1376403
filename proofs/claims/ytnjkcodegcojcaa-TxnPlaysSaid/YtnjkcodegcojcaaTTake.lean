/-
  Contracts of Take and New (layer 10).
-/
import Derived.Test.YtnjkcodegcojcaaTFork
namespace Go.Proofs.Ytnjkcodegcojcaa
open Go.RowKit

section
variable {w : World} {p m q mq : Nat} {x y : Sl} {S : Nat → Prop} {X Y : TX}
set_option maxHeartbeats 400000 in
theorem take_nil (v : Value) (w : World) (hv : v = .pointer none ∨ ∃ a, v = .pointer (some a)) : Calls Try.prog 14 #[.pointer none, v] w fun e w' => e = .returned (.tuple #[]) ∧ w' = w := by
  rcases hv with rfl | ⟨a, rfl⟩ <;>
  · go_enter Try.func14, Try.ntmps14
    go_wp2
    exact bodyPost_ret (by simp [results, Try.results14, go_sem]) rfl ⟨rfl, rfl⟩
set_option maxHeartbeats 400000 in
theorem take_none (a : Addr) (w : World) : Calls Try.prog 14 #[.pointer (some a), .pointer none] w fun e w' => e = .returned (.tuple #[]) ∧ w' = w := by
  go_enter Try.func14, Try.ntmps14
  go_wp2
  exact bodyPost_ret (by simp [results, Try.results14, go_sem]) rfl ⟨rfl, rfl⟩
set_option maxRecDepth 100000 in
set_option maxHeartbeats 1000000 in
theorem take_no (h : Tq w p m x S X) (hq : Tq w q mq y S Y) (hn : x.n ≠ y.n) : Calls Try.prog 14 #[.pointer (some ⟨p, 0, none⟩), .pointer (some ⟨q, 0, none⟩)] w fun e w' => e = .returned (.tuple #[]) ∧ w' = w := by
  have HC := Lib.hid (tlen_any h)
  have HD := Lib.hid (tlen_any hq)
  have hd : ((x.n : Int) != (y.n : Int)) = true := by simp; omega
  clear h hq hn
  go_enter Try.func14, Try.ntmps14
  go_wp2_with fail
  refine HC.out.mono ?_
  rintro e w' ⟨rfl, rfl⟩
  go_wp2_with fail
  refine HD.out.mono ?_
  rintro e w'' ⟨rfl, rfl⟩
  go_wp2
  exact bodyPost_ret (by simp [results, Try.results14, go_sem]) rfl ⟨rfl, rfl⟩
/-- Behind Take. -/
def TakeQ (w : World) (p : Nat) (x : Sl) (S : Nat → Prop) (X : TX) (e : Ending) (w' : World) : Prop := e = .returned (.tuple #[]) ∧ ∃ m', Tq w' p m' x S X ∧ Ch (· = p) w w' ∧ w.heap.size ≤ m'
set_option maxRecDepth 100000 in
set_option maxHeartbeats 1000000 in
theorem take_any (h : Tq w p m x S X) (hq : Tq w q mq y S Y) (hn : x.n = y.n) (hS : ∀ k, w.heap.size ≤ k → S k) : Calls Try.prog 14 #[.pointer (some ⟨p, 0, none⟩), .pointer (some ⟨q, 0, none⟩)] w (TakeQ w p x S (X.take Y)) := by
  have HC := Lib.hid (tlen_any h)
  have HD := Lib.hid (tlen_any hq)
  obtain ⟨es, clock, hm, hP⟩ := hq.puts.copy
  have HM := Lib.hid hm
  have HP := Lib.hid hP
  have c1 := hq.c1
  have HT := Lib.hid h
  have HS1 := Lib.hid hS
  have hd : ((x.n : Int) != (y.n : Int)) = false := by simp; omega
  clear h hq hn hm hP hS
  go_enter Try.func14, Try.ntmps14
  go_wp2_with fail
  refine HC.out.mono ?_
  rintro e w' ⟨rfl, rfl⟩
  go_wp2_with fail
  refine HD.out.mono ?_
  rintro e w'' ⟨rfl, rfl⟩
  go_wp2_with fail
  refine (mclone_any mq es clock w'' HM.out).mono ?_
  rintro e w2 ⟨rfl, hw2⟩
  have HW2 := Lib.hid hw2
  clear hw2
  have HB2 : Hid (Below w''.heap.size w'' w2) := by show Below _ _ _; rw [HW2.out]; exact (Below.refl _ _).alloc (Nat.le_refl _) _
  have HT2 := Lib.hid (HT.out.below HB2.out)
  have HP2 : Hid (PM w2 w''.heap.size S Y.p) := by show PM _ _ _ _; rw [HW2.out]; exact HP.out
  have k1 := HT2.out.c1
  have f1 := HT2.out.froz 1
  go_wp2
  refine bodyPost_ret (v := .tuple #[]) (by simp [results, Try.results14, go_sem]) rfl ?_
  have hfr : Fr (· = p) w2 (w2.setCell ⟨p, 1, none⟩ (.map (some w''.heap.size))) := (Fr.refl (· = p) w2).setCell (p := ⟨p, 1, none⟩) (fun h' => h'.2 rfl) _
  have hch : Ch (· = p) w2 (w2.setCell ⟨p, 1, none⟩ (.map (some w''.heap.size))) := ⟨hfr, fun k hk => by rw [hk]; exact HT2.out.dull⟩
  have hlt := HT.out.plt
  refine ⟨rfl, w''.heap.size, ⟨?_, HT2.out.rows.imp (fun _ h => h) (fun g cs _ hg => hfr.block g ⟨(Array.getElem?_eq_some_iff.1 hg).1, fun hq => (hch.2 g hq).no_row cs _ (by decide) hg⟩) (fun _ _ hb => hb.ch hch), HP2.out.imp (hfr.block _ ⟨HP2.out.lt, by omega⟩) (fun _ _ hb => hb.ch hch), HT2.out.sp, HS1.out _ (Nat.le_refl _)⟩, ⟨(Fr.of_below HB2.out).trans hfr (fun k hk => .inl hk), fun k hk => by rw [hk]; exact HT.out.dull⟩, Nat.le_refl _⟩
  rw [setCell_eq_setRow w2 p 1 _ _ _ _ HT2.out.cells]
  exact setRow_heap w2 p _ _ _ _ HT2.out.cells
end
end Go.Proofs.Ytnjkcodegcojcaa
