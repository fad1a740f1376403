/-
  A block of bytes that is known whole, and the contract of layer 4's putNumber, which writes into one.
-/
import Derived.Test.YtcieahfhpanogaaSSmall
namespace Go.Proofs.Ytcieahfhpanogaa
open Go.RowKit

/-- Block g is the bytes M. -/
def Bk (w : World) (g : Nat) (t : TypeId) (M : List UInt8) : Prop := w.heap[g]? = some (.cells (bc M).toArray t (0, 0))
theorem Bk.cell {w : World} {g : Nat} {t : TypeId} {M : List UInt8} (h : Bk w g t M) (j : Nat) (hj : j < M.length) : w.cell? ⟨g, j, none⟩ = some (.int .u8 (M[j].toNat : Int)) := by
  rw [cell_of_row _ _ _ _ _ _ h]
  simp [bc_get M j hj]
theorem Bk.froz {w : World} {g : Nat} {t : TypeId} {M : List UInt8} (h : Bk w g t M) (j : Nat) : w.frozen? ⟨g, j, none⟩ = false := by
  unfold Bk at h
  simp [World.frozen?, h]
theorem Bk.lt {w : World} {g : Nat} {t : TypeId} {M : List UInt8} (h : Bk w g t M) : g < w.heap.size := (Array.getElem?_eq_some_iff.1 h).1
theorem Bk.set {w : World} {g : Nat} {t : TypeId} {M : List UInt8} (h : Bk w g t M) (j : Nat) (b : UInt8) : Bk (w.setCell ⟨g, j, none⟩ (.int .u8 (b.toNat : Int))) g t (M.set j b) := by
  unfold Bk
  rw [setCell_eq_setRow _ _ _ _ _ _ _ h, setRow_heap _ _ _ _ _ _ h]
  congr 2
  simp [bc, List.map_set]
theorem Bk.of {w w' : World} {g : Nat} {t : TypeId} {M : List UInt8} (h : Bk w g t M) (hb : w'.heap[g]? = w.heap[g]?) : Bk w' g t M := hb.trans h
theorem Bk.bs {w : World} {g : Nat} {t : TypeId} {M : List UInt8} (h : Bk w g t M) : BS w (some ⟨g, 0, none⟩) M.length M := BS.of_block h

/-- copy of bytes (of whatever slice, nil let in) into a part of a block of bytes. -/
theorem wpList_copy_bs {P : Program} {o : Oper} {a : Act} {w : World} {ops : Array Oper} {rest : List Oper} {Q : Exit → Act → World → Prop} (hgd : o.guard = none) (s x : Operand) (dT sT : TypeId) (ho : o.op = .call { callee := .builtin .copy, args := #[s, x], argTypes := #[dT, sT] })
    (elem : TypeId) (g k dLen dCap : Nat) (t : TypeId) (M : List UInt8) (A : Option Addr) (n c : Nat) (l : List UInt8) (hs : a.eval s = .slice (some ⟨g, k, none⟩) dLen dCap) (hx : a.eval x = .slice A n c)
    (hu : P.underlying dT = some (.slice elem)) (hsz : (P.info? elem).map (·.size) = some 1) (hg : Bk w g t M) (hl : BS w A n l) (hfit : k + n ≤ M.length) (hd : n ≤ dLen)
    (h : ∀ w', Bk w' g t (M.take k ++ (l ++ M.drop (k + n))) → w'.heap.size = w.heap.size → Keep (· ≠ g) w w' → wpList P ops Q rest (a.put o.dst (goInt n)) w') : wpList P ops Q (o :: rest) a w := by
  have hn := hl.1
  rcases A with _ | ad
  · have hn0 : n = 0 := by
      rcases Nat.eq_zero_or_pos n with h0 | h0
      · exact h0
      · obtain ⟨b, o, h, _⟩ := hl.2 h0
        cases h
    subst hn0
    have hl0 : l = [] := List.eq_nil_of_length_eq_zero hn
    subst hl0
    have hr : (Builtin.copy_ #[dT, sT] o.type #[.slice (some ⟨g, k, none⟩) dLen dCap, .slice none 0 c]).run P w = .ok (goInt 0) w := by
      cases hq : P.info? elem with
      | none => simp [hq] at hsz
      | some i => simp [Builtin.copy_, run_underlying hu, Builtin.lenOf, Builtin.firstCells, sizeOf, typeInfo, hq, storeCells]
    refine Did.list hgd (v := goInt 0) (w' := w) (.inl ?_) (h w ?_ rfl (Keep.refl _ _))
    · unfold execOp
      simp only [ho, resolve, invoke, builtin, Sem.run_bind, Sem.run_pure, Result.andThen_ok, List.map_toArray, List.map_cons, List.map_nil, hs, hx, hr]
    · simpa using hg
  · refine wpList_copy_any hgd s x dT sT ho elem g k dLen dCap ad n c hs hx (bc M) t (bc l) hu hsz hg (by rw [bc_length, hn]; exact (Nat.min_eq_left hd).symm) (hl.news rfl) (by rw [bc_length, bc_length, hn]; exact hfit) (bc_one l) ?_
    intro w' h1 h2 h3
    rw [bc_length, hn]
    refine h w' ?_ h2 h3
    rw [bc_length, hn] at h1
    unfold Bk
    rw [h1]
    congr 2
    simp [bc, List.map_take, List.map_drop]

/-- The bytes, as far as the number is written, from its end. -/
def pn (L : List UInt8) (o n x m : Nat) : List UInt8 := L.take (o + m) ++ ((be n x).drop m ++ L.drop (o + n))
theorem pn_start (L : List UInt8) (o n x : Nat) : pn L o n x n = L := by
  unfold pn
  rw [List.drop_of_length_le (by rw [be_length]; exact Nat.le_refl _), List.nil_append, List.take_append_drop]
theorem pn_end (L : List UInt8) (o n x : Nat) : pn L o n x 0 = L.take o ++ (be n x ++ L.drop (o + n)) := rfl
theorem pn_length (L : List UInt8) (o n x m : Nat) (hm : m ≤ n) (h : o + n ≤ L.length) : (pn L o n x m).length = L.length := by
  unfold pn
  rw [List.length_append, List.length_append, List.length_take, List.length_drop, List.length_drop, be_length]
  omega
theorem pn_step (L : List UInt8) (o n x m : Nat) (hm : m < n) (h : o + n ≤ L.length) : (pn L o n x (m + 1)).set (o + m) (UInt8.ofNat (x / 256 ^ (n - (m + 1)))) = pn L o n x m := by
  unfold pn
  have e1 : L.take (o + (m + 1)) = L.take (o + m) ++ [L[o + m]'(by omega)] := by
    rw [show o + (m + 1) = o + m + 1 by omega, List.take_succ_eq_append_getElem (by omega)]
  have e2 : (be n x).drop m = UInt8.ofNat (x / 256 ^ (n - (m + 1))) :: (be n x).drop (m + 1) := by
    rw [List.drop_eq_getElem_cons (by rw [be_length]; exact hm), be_get]
    congr 3
    rw [show (256 : Nat) = 2 ^ 8 from rfl, ← Nat.pow_mul]
    congr 2
    omega
  have hl : (L.take (o + m)).length = o + m := by rw [List.length_take]; omega
  rw [e1, e2, List.append_assoc, List.set_append_right _ _ (by omega), hl, Nat.sub_self]
  simp
theorem quo_step (x n m : Nat) (hm : m < n) : x / 256 ^ (n - (m + 1)) / 256 = x / 256 ^ (n - m) := by
  rw [Nat.div_div_eq_div_mul, ← Nat.pow_succ]
  congr 2
  omega

set_option maxRecDepth 100000 in
set_option maxHeartbeats 1000000 in
theorem putNumber_any (g o n c : Nat) (t : TypeId) (L : List UInt8) (x : Nat) (w : World) (h : Bk w g t L) (hn : o + n ≤ L.length) (hL : L.length ≤ 1000) (hx : x < 18446744073709551616) :
    Calls Try.prog 57 #[.slice (some ⟨g, o, none⟩) n c, .int .u64 (x : Int)] w fun e w' =>
      e = .returned (.tuple #[]) ∧ Bk w' g t (L.take o ++ (be n x ++ L.drop (o + n))) ∧ Keep (· ≠ g) w w' ∧ w'.heap.size = w.heap.size := by
  have HB := Lib.hid h
  clear h
  go_enter Try.func57, Try.ntmps57
  go_wp2
  go_loopw [4, 1] (fun i y wr => ∃ m : Nat, m ≤ n ∧ i = .int .i64 ((m : Int) - 1) ∧ y = .int .u64 ((x / 256 ^ (n - m) : Nat) : Int) ∧ Hid (Bk wr g t (pn L o n x m)) ∧ Hid (Keep (· ≠ g) w wr) ∧ Hid (wr.heap.size = w.heap.size)) (fun i _ _ => (intOf i + 1).toNat)
  case atStart => exact ⟨n, Nat.le_refl _, rfl, by simp, by rw [pn_start]; exact HB, Keep.refl _ _, rfl⟩
  case round =>
    obtain ⟨m, hm, rfl, rfl, HI, HK, HZ⟩ := hrel
    by_cases hlt : 0 < m
    · obtain ⟨k, rfl⟩ : ∃ k, m = k + 1 := ⟨m - 1, by omega⟩
      have hk : k < n := by omega
      have hlen := pn_length L o n x (k + 1) hm hn
      obtain ⟨old, hcell⟩ : ∃ old : UInt8, wr.cell? ⟨g, o + k, none⟩ = some (.int .u8 (old.toNat : Int)) := ⟨_, HI.out.cell (o + k) (by omega)⟩
      have hfroz := HI.out.froz (o + k)
      have HS := Lib.hid (HI.out.set (o + k) (UInt8.ofNat (x / 256 ^ (n - (k + 1)))))
      have HE := Lib.hid (pn_step L o n x k hk hn)
      have HQ := Lib.hid (quo_step x n k hk)
      have hq : x / 256 ^ (n - (k + 1)) < 18446744073709551616 := Nat.lt_of_le_of_lt (Nat.div_le_self _ _) hx
      have HV : Hid ((((x / 256 ^ (n - (k + 1)) : Nat) : Int) % 256) = ((UInt8.ofNat (x / 256 ^ (n - (k + 1)))).toNat : Int)) := by show _ = _; simp
      have hik : ((k + 1 : Nat) : Int) - 1 = (k : Int) := by omega
      rw [hik]
      clear hik hlen
      generalize x / 256 ^ (n - (k + 1)) = q at *
      go_wp2
      rw [HV.out]
      have HK2 := Lib.hid (HK.out.setCell (p := ⟨g, o + k, none⟩) (fun h => h rfl) (.int .u8 ((UInt8.ofNat q).toNat : Int)))
      rw [HE.out] at HS
      go_roundw
      case rel => exact ⟨k, by omega, rfl, by rw [← HQ.out]; rfl, HS, HK2, by show _ = _; rw [← HZ.out]; simp [World.setCell]⟩
      case measure => simp [intOf]
    · obtain rfl : m = 0 := by omega
      go_wp2
      go_end0
      exact ⟨rfl, HI.out, HK.out, HZ.out⟩
end Go.Proofs.Ytcieahfhpanogaa
