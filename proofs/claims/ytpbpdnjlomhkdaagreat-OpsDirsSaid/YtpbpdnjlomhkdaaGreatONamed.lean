/-
  The law's names (layer 13).
-/
import Derived.Test.YtpbpdnjlomhkdaaGreatOPB
namespace Go.Proofs.YtpbpdnjlomhkdaaGreat
open Go.RowKit Go.Shelf
attribute [local go_sem] Oper.semAt_some
def Op.nm12 (k : Nat) : List UInt8 := [[97], [98], [99], [100, 100], [101], [], [46, 46], [120, 47, 121], List.replicate 24 97, List.replicate 25 97, [102], [103]].getD k []
theorem Op.nm12_len {k : Nat} (h : k < 12) : (Op.nm12 k).length ≤ 25 := by
  have : ∀ k, k < 12 → (Op.nm12 k).length ≤ 25 := by decide
  exact this k h
theorem nm12_at (k : Nat) : [Value.string ⟨#[97]⟩, Value.string ⟨#[98]⟩, Value.string ⟨#[99]⟩, Value.string ⟨#[100, 100]⟩, Value.string ⟨#[101]⟩, Value.string ⟨#[]⟩, Value.string ⟨#[46, 46]⟩, Value.string ⟨#[120, 47, 121]⟩, Value.string ⟨#[97, 97, 97, 97, 97, 97, 97, 97, 97, 97, 97, 97, 97, 97, 97, 97, 97, 97, 97, 97, 97, 97, 97, 97]⟩, Value.string ⟨#[97, 97, 97, 97, 97, 97, 97, 97, 97, 97, 97, 97, 97, 97, 97, 97, 97, 97, 97, 97, 97, 97, 97, 97, 97]⟩, Value.string ⟨#[102]⟩, Value.string ⟨#[103]⟩][k % 12]? = some (.string (txt (Op.nm12 (k % 12)))) := by
  have h : k % 12 < 12 := Nat.mod_lt _ (by omega)
  generalize k % 12 = j at h
  match j, h with
  | 0, _ => rfl
  | 1, _ => rfl
  | 2, _ => rfl
  | 3, _ => rfl
  | 4, _ => rfl
  | 5, _ => rfl
  | 6, _ => rfl
  | 7, _ => rfl
  | 8, _ => rfl
  | 9, _ => rfl
  | 10, _ => rfl
  | 11, _ => rfl
set_option maxRecDepth 100000 in
set_option maxHeartbeats 4000000 in
theorem lawnamed_any (k : Nat) (w : World) (h : k < 256) : Calls Tryz.prog 30 #[.int .u8 (k : Int)] w fun e w' => e = .returned (.string (txt (Op.nm12 (k % 12)))) ∧ Below w.heap.size w w' := by
  have hl := nm12_at k
  go_enter Tryz.func30, Tryz.ntmps30
  go_wp2_with fail
  go_ret
  exact ⟨rfl, (Below.refl _ _).alloc (Nat.le_refl _) _⟩
end Go.Proofs.YtpbpdnjlomhkdaaGreat
