/-
  Contract of package inode's writeAll, of both widths: each number is put, in order (layer 7).
-/
import Derived.Test.YtkgpgaanodmpiaaIDist
namespace Go.Proofs.Ytkgpgaanodmpiaa
open Go.RowKit

set_option maxRecDepth 100000 in
set_option maxHeartbeats 1000000 in
theorem writeAll32 (K : Nat → Prop) (w : World) (p : Nat) (l : List UInt8) (A : Option Addr) (n cp : Nat) (xs : List Nat) (h : Wr K w p l) (hx : NS .u32 w A n xs) (hK : 0 < n → ∀ ad, A = some ad → K ad.block) (hl : l.length ≤ 900000) (hn : n ≤ 1000) :
    Calls Try.prog 22 #[.func (.func 23) #[.pointer (some ⟨p, 0, none⟩)] #[], .slice A n cp] w fun e w' => e = .returned (.tuple #[]) ∧ Wr K w' p (l ++ enc 4 xs) ∧ Keep K w w' := by
  have H := Lib.hid h
  have Hn : Hid (xs.length = n) := hx.1
  have HX := Lib.hid hx
  have HK := Lib.hid hK
  clear h hx hK
  go_enter Try.func22, Try.ntmps22
  go_wp2
  go_loopw [8] (fun i wr => ∃ k : Nat, k ≤ n ∧ i = .int .i64 k ∧ Hid (Wr K wr p (l ++ enc 4 (xs.take k))) ∧ Hid (Keep K w wr)) (fun i _ => n - (intOf i).toNat)
  case atStart => exact ⟨0, by omega, rfl, by simpa [Hid, enc] using H.out, Keep.refl _ _⟩
  case round =>
    obtain ⟨k, hk, rfl, HW, HKe⟩ := hrel
    by_cases hlt : k < n
    · obtain ⟨b, o, rfl, hj, hc0⟩ := HX.out.at hlt
      have hcx : wr.cell? ⟨b, o + k, none⟩ = some (.int .u32 (xs[k] : Int)) := (World.cell?_of_block (HKe.out.block b (HK.out (by omega) _ rfl))).trans hc0
      have HS := Lib.hid (enc_snoc 4 xs k hj)
      have HL : Hid ((l ++ enc 4 (xs.take k)).length ≤ 1000000) := by show _ ≤ _; rw [List.length_append, enc_length, List.length_take]; omega
      clear hc0
      generalize xs[k] = x at *
      go_wp2_with fail
      refine (u32w K wr p _ (x : Int) (by omega) HW.out HL.out).mono ?_
      rintro e w1 ⟨rfl, h1, h2⟩
      rw [Int.toNat_natCast, List.append_assoc, ← HS.out] at h1
      have HW1 := Lib.hid h1
      have HK1 := Lib.hid (HKe.out.trans h2)
      clear h1 h2
      go_wp2
      go_roundw
      case rel => exact ⟨k + 1, by omega, by go_num, HW1, HK1⟩
      case measure => simp [intOf]; omega
    · have : k = n := by omega
      subst this
      go_wp2
      go_end0
      refine ⟨rfl, ?_, HKe.out⟩
      have := HW.out
      rwa [List.take_of_length_le (by rw [Hn.out]; exact Nat.le_refl _)] at this

set_option maxRecDepth 100000 in
set_option maxHeartbeats 1000000 in
theorem writeAll64 (K : Nat → Prop) (w : World) (p : Nat) (l : List UInt8) (A : Option Addr) (n cp : Nat) (xs : List Nat) (h : Wr K w p l) (hx : NS .u64 w A n xs) (hK : 0 < n → ∀ ad, A = some ad → K ad.block) (hl : l.length ≤ 900000) (hn : n ≤ 1000) :
    Calls Try.prog 24 #[.func (.func 25) #[.pointer (some ⟨p, 0, none⟩)] #[], .slice A n cp] w fun e w' => e = .returned (.tuple #[]) ∧ Wr K w' p (l ++ enc 8 xs) ∧ Keep K w w' := by
  have H := Lib.hid h
  have Hn : Hid (xs.length = n) := hx.1
  have HX := Lib.hid hx
  have HK := Lib.hid hK
  clear h hx hK
  go_enter Try.func24, Try.ntmps24
  go_wp2
  go_loopw [8] (fun i wr => ∃ k : Nat, k ≤ n ∧ i = .int .i64 k ∧ Hid (Wr K wr p (l ++ enc 8 (xs.take k))) ∧ Hid (Keep K w wr)) (fun i _ => n - (intOf i).toNat)
  case atStart => exact ⟨0, by omega, rfl, by simpa [Hid, enc] using H.out, Keep.refl _ _⟩
  case round =>
    obtain ⟨k, hk, rfl, HW, HKe⟩ := hrel
    by_cases hlt : k < n
    · obtain ⟨b, o, rfl, hj, hc0⟩ := HX.out.at hlt
      have hcx : wr.cell? ⟨b, o + k, none⟩ = some (.int .u64 (xs[k] : Int)) := (World.cell?_of_block (HKe.out.block b (HK.out (by omega) _ rfl))).trans hc0
      have HS := Lib.hid (enc_snoc 8 xs k hj)
      have HL : Hid ((l ++ enc 8 (xs.take k)).length ≤ 1000000) := by show _ ≤ _; rw [List.length_append, enc_length, List.length_take]; omega
      clear hc0
      generalize xs[k] = x at *
      go_wp2_with fail
      refine (u64w K wr p _ (x : Int) (by omega) HW.out HL.out).mono ?_
      rintro e w1 ⟨rfl, h1, h2⟩
      rw [Int.toNat_natCast, List.append_assoc, ← HS.out] at h1
      have HW1 := Lib.hid h1
      have HK1 := Lib.hid (HKe.out.trans h2)
      clear h1 h2
      go_wp2
      go_roundw
      case rel => exact ⟨k + 1, by omega, by go_num, HW1, HK1⟩
      case measure => simp [intOf]; omega
    · have : k = n := by omega
      subst this
      go_wp2
      go_end0
      refine ⟨rfl, ?_, HKe.out⟩
      have := HW.out
      rwa [List.take_of_length_le (by rw [Hn.out]; exact Nat.le_refl _)] at this
end Go.Proofs.Ytkgpgaanodmpiaa
