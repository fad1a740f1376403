/-
  Contracts of layer 4's inner functions: within, blank, number.
-/
import Derived.Test.YtcieahfhpanogaaSMath
import Derived.Test.YtcieahfhpanogaaCRight
import Derived.Test.YtcieahfhpanogaaMake
namespace Go.Proofs.Ytcieahfhpanogaa
open Go.RowKit

/-- All numbers lie in the range. -/
def allIn (lo hi : Int) (zs : List Int) : Bool := zs.all fun v => decide (lo ≤ v) && decide (v ≤ hi)
theorem allIn_step {lo hi : Int} {zs : List Int} {k : Nat} (hk : k < zs.length) (h : allIn lo hi (zs.take k) = true) (h1 : lo ≤ zs[k]) (h2 : zs[k] ≤ hi) : allIn lo hi (zs.take (k + 1)) = true := by
  unfold allIn at *
  rw [List.take_succ_eq_append_getElem hk, List.all_append, h]
  simp [h1, h2]
theorem allIn_no {lo hi : Int} {zs : List Int} {k : Nat} (hk : k < zs.length) (h : zs[k] < lo ∨ hi < zs[k]) : allIn lo hi zs = false := by
  unfold allIn
  rw [List.all_eq_false]
  refine ⟨zs[k], List.getElem_mem hk, ?_⟩
  simp
  omega

set_option maxRecDepth 100000 in
set_option maxHeartbeats 1000000 in
theorem within_any (lo hi : Int) (b c : Nat) (zs : List Int) (w : World) (h : ∀ j (hj : j < zs.length), w.cell? ⟨b, j, none⟩ = some (.int .i64 zs[j])) (hz : zs.length ≤ 1000) :
    Calls Try.prog 56 #[.int .i64 lo, .int .i64 hi, .slice (some ⟨b, 0, none⟩) zs.length c] w fun e w' => e = .returned (.bool (allIn lo hi zs)) ∧ w = w' := by
  have HL := Lib.hid h
  clear h
  go_enter Try.func56, Try.ntmps56
  go_wp2
  go_loop [11] (fun i => ∃ k : Nat, k ≤ zs.length ∧ i = .int .i64 k ∧ Hid (allIn lo hi (zs.take k) = true)) (fun i => zs.length - (intOf i).toNat)
  case atStart => exact ⟨0, by omega, rfl, rfl⟩
  case round =>
    obtain ⟨k, hk, rfl, HI⟩ := hrel
    by_cases hlt : k < zs.length
    · have hcell := HL.out k hlt
      have hd : decide (k < zs.length) = true := by simp; omega
      have HS := Lib.hid (allIn_step (lo := lo) (hi := hi) hlt HI.out)
      have HN := Lib.hid (allIn_no (lo := lo) (hi := hi) hlt)
      generalize zs[k] = v at *
      by_cases h1 : v < lo
      · have hd1 : decide (v < lo) = true := by simp; omega
        go_wp2
        go_ret
        exact ⟨by rw [HN.out (.inl h1)]; rfl, rfl⟩
      · have hd1 : decide (v < lo) = false := by simp; omega
        by_cases h2 : hi < v
        · have hd2 : decide (hi < v) = true := by simp; omega
          go_wp2
          go_ret
          exact ⟨by rw [HN.out (.inr h2)]; rfl, rfl⟩
        · have hd2 : decide (hi < v) = false := by simp; omega
          go_wp2
          go_round
          case rel => exact ⟨k + 1, by omega, by go_num, HS.out (by omega) (by omega)⟩
          case measure => simp [intOf]; omega
    · have hd : decide (k < zs.length) = false := by simp; omega
      have HE : Hid (allIn lo hi zs = true) := by
        have := HI.out
        rwa [List.take_of_length_le (by omega)] at this
      go_wp2
      go_ret
      exact ⟨by rw [HE.out]; rfl, rfl⟩

theorem nought_step {l : List UInt8} {k : Nat} (hk : k < l.length) (h : nought (l.take k) = true) (h1 : l[k].toNat = 0) : nought (l.take (k + 1)) = true := by
  unfold nought at *
  rw [List.take_succ_eq_append_getElem hk, List.all_append, h]
  have : l[k] = 0 := UInt8.toNat_inj.1 (by simpa using h1)
  simp [this]
theorem nought_no {l : List UInt8} {k : Nat} (hk : k < l.length) (h : l[k].toNat ≠ 0) : nought l = false := by
  unfold nought
  rw [List.all_eq_false]
  refine ⟨l[k], List.getElem_mem hk, ?_⟩
  intro e
  rw [beq_iff_eq] at e
  rw [e] at h
  exact h rfl

set_option maxRecDepth 100000 in
set_option maxHeartbeats 1000000 in
theorem blank_any (A : Option Addr) (n c : Nat) (l : List UInt8) (w : World) (h : BS w A n l) (hn : n ≤ 3000000) :
    Calls Try.prog 64 #[.slice A n c] w fun e w' => e = .returned (.bool (nought l)) ∧ w = w' := by
  have HL := Lib.hid h
  have Hn : Hid (l.length = n) := h.1
  clear h
  go_enter Try.func64, Try.ntmps64
  go_wp2
  go_loop [7] (fun i => ∃ k : Nat, k ≤ n ∧ i = .int .i64 k ∧ Hid (nought (l.take k) = true)) (fun i => n - (intOf i).toNat)
  case atStart => exact ⟨0, by omega, rfl, rfl⟩
  case round =>
    obtain ⟨k, hk, rfl, HI⟩ := hrel
    by_cases hlt : k < n
    · obtain ⟨b, o, rfl, hj, hcell⟩ := HL.out.at hlt
      have hd : decide (k < n) = true := by simp; omega
      have HS := Lib.hid (nought_step hj HI.out)
      have HN := Lib.hid (nought_no hj)
      generalize l[k] = v at *
      by_cases h1 : v.toNat = 0
      · have hd1 : ((v.toNat : Int) != 0) = false := by simp; omega
        go_wp2
        go_round
        case rel => exact ⟨k + 1, by omega, by go_num, HS.out h1⟩
        case measure => simp [intOf]; omega
      · have hd1 : ((v.toNat : Int) != 0) = true := by simp; omega
        go_wp2
        go_ret
        exact ⟨by rw [HN.out h1]; rfl, rfl⟩
    · have hd : decide (k < n) = false := by simp; omega
      have HE : Hid (nought l = true) := by
        have := HI.out
        rwa [List.take_of_length_le (by rw [Hn.out]; omega)] at this
      go_wp2
      go_ret
      exact ⟨by rw [HE.out]; rfl, rfl⟩

theorem num_step8 (a : Nat) (b : UInt8) (h : a * 256 < 18446744073709551616) : bits .or .u64 ((a : Int) * (256 : Int)) (b.toNat : Int) = ((a * 256 + b.toNat : Nat) : Int) := by
  have hb := b.toNat_lt
  have e : (a : Int) * (256 : Int) = ((a * 256 : Nat) : Int) := by omega
  have e2 : a * 256 ||| b.toNat = a * 256 + b.toNat := by
    have := Nat.shiftLeft_add_eq_or_of_lt (i := 8) (b := b.toNat) (by omega) a
    rw [Nat.shiftLeft_eq] at this
    exact this.symm
  rw [e, u64_or_nat _ _ h (by omega), e2]
set_option maxRecDepth 100000 in
set_option maxHeartbeats 1000000 in
theorem num8_any (A : Option Addr) (n c : Nat) (l : List UInt8) (w : World) (h : BS w A n l) (hn : n ≤ 8) :
    Calls Try.prog 65 #[.slice A n c] w fun e w' => e = .returned (.int .u64 (num l : Int)) ∧ w = w' := by
  have HL := Lib.hid h
  have Hn : Hid (l.length = n) := h.1
  clear h
  go_enter Try.func65, Try.ntmps65
  go_wp2
  go_loop [3, 8] (fun x i => ∃ k : Nat, k ≤ n ∧ i = .int .i64 k ∧ x = .int .u64 (num (l.take k) : Int)) (fun _ i => n - (intOf i).toNat)
  case atStart => exact ⟨0, by omega, rfl, rfl⟩
  case round =>
    obtain ⟨k, hk, rfl, rfl⟩ := hrel
    by_cases hlt : k < n
    · obtain ⟨b, o, rfl, hj, hcell⟩ := HL.out.at hlt
      have hby := l[k].toNat_lt
      have hd : decide (k < n) = true := by simp; omega
      have hm : num (l.take k) < 72057594037927936 := by
        have h1 := num_lt (l.take k)
        have h2 : 256 ^ (l.take k).length ≤ 256 ^ 7 := Nat.pow_le_pow_right (by omega) (by rw [List.length_take]; omega)
        omega
      have HE : Hid (num (l.take (k + 1)) = num (l.take k) * 256 + l[k].toNat) := by
        show _ = _
        rw [List.take_succ_eq_append_getElem hj, num_snoc]
      have HX := Lib.hid (num_step8 (num (l.take k)) l[k] (by omega))
      generalize num (l.take k) = m at *
      go_wp2
      rw [HX.out]
      go_round
      case rel => exact ⟨k + 1, by omega, by go_num, by rw [HE.out]⟩
      case measure => simp [intOf]; omega
    · have Hkn : Hid (k = n) := by show _ = _; omega
      have hd : decide (k < n) = false := by simp; omega
      go_wp2
      go_ret
      exact ⟨ret_int (by rw [Hkn.out, List.take_of_length_le (by rw [Hn.out]; exact Nat.le_refl _)]), rfl⟩
end Go.Proofs.Ytcieahfhpanogaa
