/-
  A volume, plain: what is told once it is no longer as it must be (layer 12). Nothing of the program is named here.
-/
import Derived.Test.YtnhokkdieijkhaaGreatDoorQ11
namespace Go.Proofs.YtnhokkdieijkhaaGreatDoor
namespace Vl
section
variable {D : List UInt8 → Nat → Bool} {n : Nat} {B B' : Nat → List UInt8} {S : Nat → Th} {bl : Nat → List Nat}
theorem Vol.blOf (h : Vol D n B S bl) (hn : n ≤ 803) (i : Nat) (hi : i < 24) : (Nd.got (B (11 + i))).bl = bl i := by
  rw [(h.node hn hi).2]
  rfl
theorem owns_congr (x : Nat) : ∀ k, (∀ i, i < k → B' (11 + i) = B (11 + i)) → owns B' x k = owns B x k
  | 0, _ => rfl
  | k + 1, h => by
    simp only [owns, own1]
    rw [owns_congr x k (fun i hi => h i (by omega)), h k (by omega)]
theorem badTo_of {x : Nat} (hx : x < n - 35) (h : badB B x = true) : badTo B (n - 35) = true := (badTo_iff B _).2 ⟨x, hx, h⟩
theorem wrong_bad (h : badTo B (n - 35) = true) : wrongB D n B = true := by
  unfold wrongB
  rw [h]
  simp
theorem wrong_ld {i : Nat} (hi : i < 24) (h : ldE D n B i ≠ 0) : wrongB D n B = true := by
  have := allE_no (D := D) (n := n) (B := B) hi h
  unfold wrongB
  simp [this]
theorem wrong_ch (h : chE (B 10) ≠ 0) : wrongB D n B = true := by
  unfold wrongB
  simp [h]
/-- A bit that is turned. -/
theorem Vol.bad_map (h : Vol D n B S bl) (hn : n ≤ 803) {x : Nat} (hx : x < n - 35) (hB : ∀ j, 11 ≤ j → B' j = B j) (hT : Bt.has (B' 9) x = !Bt.has (B 9) x) : wrongB D n B' = true := by
  refine wrong_bad (badTo_of hx ?_)
  have ho : owns B' x 24 = owns B x 24 := owns_congr x 24 fun i _ => hB _ (by omega)
  have hs := owns_sum x (h.blOf hn) h.vp.nodup h.vp.dis 24 (Nat.le_refl _)
  have hm := h.vp.map x
  unfold badB
  rw [ho, hT]
  rcases hs with ⟨h0, h1⟩ | ⟨h0, i, hi, h1⟩
  · have : Bt.has (B 9) x = false := by
      cases e : Bt.has (B 9) x with
      | false => rfl
      | true =>
        obtain ⟨i, hi, h2⟩ := hm.1 e
        exact absurd h2 (h1 i hi)
    rw [h0, this]
    simp
  · have : Bt.has (B 9) x = true := hm.2 ⟨i, hi, h1⟩
    rw [h0, this]
    simp
theorem owns_ge (x : Nat) : ∀ k i, i < k → x ∈ (Nd.got (B (11 + i))).bl → 1 ≤ owns B x k
  | 0, _, h, _ => by omega
  | k + 1, i, h, hm => by
    simp only [owns]
    by_cases e : i = k
    · subst e
      have : 0 < own1 B i x := List.count_pos_iff.2 hm
      omega
    · have := owns_ge x k i (by omega) hm
      omega
theorem owns_two (x : Nat) : ∀ k i j, i < j → j < k → x ∈ (Nd.got (B (11 + i))).bl → x ∈ (Nd.got (B (11 + j))).bl → 2 ≤ owns B x k
  | 0, _, _, _, h, _, _ => by omega
  | k + 1, i, j, hij, hj, h1, h2 => by
    simp only [owns]
    by_cases e : j = k
    · subst e
      have a := owns_ge (B := B) x j i hij h1
      have b : 0 < own1 B j x := List.count_pos_iff.2 h2
      omega
    · have := owns_two x k i j hij (by omega) h1 h2
      omega
/-- One block in two inodes. -/
theorem Vol.bad_twin (h : Vol D n B S bl) (hn : n ≤ 803) {i j : Nat} (hij : i < j) (hj : j < 24) (hk : 0 < (bl i).length) (h1 : B' (11 + i) = B (11 + i)) (h2 : B' (11 + j) = B (11 + i)) : wrongB D n B' = true := by
  have hx := (h.vp.at' i (by omega) 0 hk).1
  refine wrong_bad (badTo_of hx ?_)
  have hm : (bl i)[0] ∈ bl i := List.getElem_mem hk
  have := owns_two (B := B') ((bl i)[0]) 24 i j hij hj (by rw [h1, h.blOf hn i (by omega)]; exact hm) (by rw [h2, h.blOf hn i (by omega)]; exact hm)
  unfold badB
  have hd : decide (1 < owns B' (bl i)[0] 24) = true := by simp; omega
  rw [hd]
  simp
/-- A free block with bytes. -/
theorem Vol.bad_free (h : Vol D n B S bl) (hn : n ≤ 803) {x : Nat} (hx : x < n - 35) (hno : ∀ i, i < 24 → x ∉ bl i) (hB : ∀ i, i < 24 → B' (11 + i) = B (11 + i)) (hb : 0 < (B' (35 + x)).length) : wrongB D n B' = true := by
  refine wrong_bad (badTo_of hx ?_)
  have ho : owns B' x 24 = owns B x 24 := owns_congr x 24 fun i hi => hB i hi
  rcases owns_sum x (h.blOf hn) h.vp.nodup h.vp.dis 24 (Nat.le_refl _) with ⟨h0, _⟩ | ⟨_, i, hi, h1⟩
  · unfold badB
    rw [ho, h0]
    have : decide (0 < (B' (35 + x)).length) = true := by simpa using hb
    rw [this]
    simp
  · exact absurd h1 (hno i hi)
theorem bsOk_no (size : Nat) : ∀ (l : List Nat) (k i : Nat) (hi : i < l.length), (B (35 + l[i])).length ≠ min 96 (size - 96 * (k + i)) → bsOk n B size l k = false
  | [], _, _, hi, _ => by simp at hi
  | b :: r, k, 0, _, h => by
    have hd : decide ((B (35 + b)).length = min 96 (size - 96 * k)) = false := by simpa using h
    simp only [bsOk, hd]
    simp
  | b :: r, k, i + 1, hi, h => by
    have := bsOk_no size r (k + 1) i (by simpa using hi) (by rw [show k + 1 + i = k + (i + 1) by omega]; simpa using h)
    simp only [bsOk, this]
    simp
/-- A part that is cut. -/
theorem Vol.bad_part (h : Vol D n B S bl) (hn : n ≤ 803) {i k : Nat} (hi : i < 24) (hk : k < (bl i).length) (h1 : B' (11 + i) = B (11 + i)) (h2 : (B' (35 + (bl i)[k])).length ≠ (part (S i).dt k).length) : wrongB D n B' = true := by
  refine wrong_ld hi ?_
  have hnd := h.node hn hi
  have hb : bsOk n B' (nd (S i) (bl i)).size (nd (S i) (bl i)).bl 0 = false := by
    refine bsOk_no _ (bl i) 0 k hk ?_
    rw [part_len] at h2
    rw [Nat.zero_add]
    exact h2
  unfold ldE
  rw [h1, hnd.2, hnd.1, hb]
  simp
theorem chE_one : chE [1] ≠ 0 := by decide +kernel
/-- The blocks of the first thing that is saved. -/
theorem save_first {n : Nat} {s : Th} {st : St} (e : save n [s] (fun _ => []) bare (fun _ => []) = some st) : st.bl s.ino = (Bt.fr [] (n - 35)).take (need s.dt.length) ∧ ∀ i, i ≠ s.ino → st.bl i = [] := by
  have e' : (if need s.dt.length ≤ (Bt.fr ((St.mk [] (fun _ => []) bare (fun _ => [])).give s.ino).T (n - 35)).length then some (((St.mk [] (fun _ => []) bare (fun _ => [])).give s.ino).lay (n - 35) s) else none) = some st := e
  by_cases hc : need s.dt.length ≤ (Bt.fr ((St.mk [] (fun _ => []) bare (fun _ => [])).give s.ino).T (n - 35)).length
  · rw [if_pos hc] at e'
    have e2 := Option.some.inj e'
    subst e2
    refine ⟨?_, fun i hi => ?_⟩
    · show upd (upd (fun _ => []) s.ino []) s.ino _ s.ino = _
      rw [upd_same]
      rfl
    · show upd (upd (fun _ => []) s.ino []) s.ino _ i = _
      rw [upd_other _ _ hi, upd_other _ _ hi]
  · rw [if_neg hc] at e'
    cases e'
theorem fr_none (n : Nat) : Bt.fr [] n = List.range n := by
  unfold Bt.fr
  refine List.filter_eq_self.2 fun a _ => ?_
  simp [Bt.has]
end
end Vl
end Go.Proofs.YtnhokkdieijkhaaGreatDoor
