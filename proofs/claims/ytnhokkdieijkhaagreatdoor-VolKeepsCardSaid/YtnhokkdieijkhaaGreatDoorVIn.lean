/-
  Arguments of layer 12: slices of numbers.
-/
import Derived.Test.YtnhokkdieijkhaaGreatDoorQ11
import Derived.ProofKit
import Derived.OpenShut
import Derived.ShutString
import Derived.ChangeOld
import Derived.Deep.Slices
import Derived.Deep.Fields
namespace Go.Proofs.YtnhokkdieijkhaaGreatDoor
open Go.ChangeShapes Go.WideShapes Go.ChangeAt Go.RowKit

theorem wf16 {n : Int} (h : (Lit.int .u16 n).wf = true) : 0 ≤ n ∧ n < 65536 := by
  simp [Lit.wf, IntKind.min, IntKind.max, IntKind.bits, IntKind.signed] at h
  omega
theorem wf8 {n : Int} (h : (Lit.int .u8 n).wf = true) : 0 ≤ n ∧ n < 256 := by
  simp [Lit.wf, IntKind.min, IntKind.max, IntKind.bits, IntKind.signed] at h
  omega
/-- A slice of numbers of 64 bits, as it came in. -/
theorem nums64_in {H : Type} {enc : TypeId × Value → H} {W : World} {B : Option Addr} {n cap : Nat} {d : DataW H} {p : List MemPlace}
    (h : DataW.Trod enc Tryz.prog W 0 (fun _ => true) true 43 (.slice B n cap) d p) :
    ∃ xs : List Nat, NS .u64 W B n xs ∧ ∀ y ∈ xs, y < 18446744073709551616 := by
  obtain ⟨fuel, hf⟩ := h
  rcases open_ints Tryz.underlying43 Tryz.underlying29 (by kernel_rfl) hf with ⟨hcs, _⟩ | ⟨x, l, c, zs, hcs, _, hl, hm, hz, _, hcell, hwz⟩
  · simp [Value.cells] at hcs
    obtain ⟨rfl, rfl, rfl⟩ := hcs
    exact ⟨[], ⟨rfl, fun h => absurd h (by omega)⟩, fun y h => absurd h (by simp)⟩
  · simp [Value.cells] at hcs
    obtain ⟨rfl, rfl, rfl⟩ := hcs
    have hr : IsRow .u64 W (some x) n cap zs := .inr ⟨_, rfl, hl, hm, by simpa using hz, hcell, hwz⟩
    exact hr.ns 18446744073709551616 (fun z hz => wf_u64 hz)
theorem nums16_in {H : Type} {enc : TypeId × Value → H} {W : World} {B : Option Addr} {n cap : Nat} {d : DataW H} {p : List MemPlace}
    (h : DataW.Trod enc Tryz.prog W 0 (fun _ => true) true 50 (.slice B n cap) d p) :
    ∃ xs : List Nat, NS .u16 W B n xs ∧ ∀ y ∈ xs, y < 65536 := by
  obtain ⟨fuel, hf⟩ := h
  rcases open_ints Tryz.underlying50 Tryz.underlying51 (by kernel_rfl) hf with ⟨hcs, _⟩ | ⟨x, l, c, zs, hcs, _, hl, hm, hz, _, hcell, hwz⟩
  · simp [Value.cells] at hcs
    obtain ⟨rfl, rfl, rfl⟩ := hcs
    exact ⟨[], ⟨rfl, fun h => absurd h (by omega)⟩, fun y h => absurd h (by simp)⟩
  · simp [Value.cells] at hcs
    obtain ⟨rfl, rfl, rfl⟩ := hcs
    have hr : IsRow .u16 W (some x) n cap zs := .inr ⟨_, rfl, hl, hm, by simpa using hz, hcell, hwz⟩
    exact hr.ns 65536 (fun z hz => wf16 hz)
end Go.Proofs.YtnhokkdieijkhaaGreatDoor
