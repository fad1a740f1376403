/-
  What DirRemoves needs of entries, plain: the letters that are there, in order (layer 8).
  DirRemoves walked (layer 8).
  What DirAdds needs of entries, plain (layer 8).
  Contracts of the reference's Name and Find (layer 8).
  Contract of the reference's May (layer 8).
-/
import Derived.Test.YtbeahhijmgkfhaaEKit
import Derived.BigQuiet
namespace Go.Proofs.Ytbeahhijmgkfhaa

/-- The first place of a name, of entries of one name and none of it. -/
theorem fnd_none {es : List En} {nm : List UInt8} (h : ∀ e ∈ es, e.nm ≠ nm) : fnd es nm = -1 := by
  unfold fnd
  rw [if_neg]
  rw [List.findIdx_lt_length]
  rintro ⟨e, he, hn⟩
  exact h e he (by simpa using hn)
theorem fnd_mid {xs ys : List En} {e : En} (h : ∀ x ∈ xs, x.nm ≠ e.nm) : fnd (xs ++ e :: ys) e.nm = (xs.length : Int) := by
  have h1 : (xs ++ e :: ys).findIdx (fun x => x.nm == e.nm) = xs.length := by
    rw [List.findIdx_append]
    have h2 : xs.findIdx (fun x => x.nm == e.nm) = xs.length := by
      rw [List.findIdx_eq_length]
      intro x hx
      simpa using h x hx
    rw [h2, if_neg (by omega), List.findIdx_cons]
    simp
  unfold fnd
  rw [h1, if_pos (by simp)]
theorem rem_mid {xs ys : List En} {e : En} (h : ∀ x ∈ xs, x.nm ≠ e.nm) : remE (xs ++ e :: ys) e.nm = 0 ∧ remL (xs ++ e :: ys) e.nm = xs ++ ys := by
  have h1 := fnd_mid (ys := ys) h
  refine ⟨by unfold remE; rw [h1, if_neg (by omega)], ?_⟩
  unfold remL
  rw [h1, if_neg (by omega), Int.toNat_natCast]
  simp
theorem rem_none {es : List En} {nm : List UInt8} (h : ∀ e ∈ es, e.nm ≠ nm) : remE es nm = 60 := by
  unfold remE
  rw [fnd_none h, if_pos (by omega)]
/-- The letters that are there. -/
def mkE (i : Nat) : En := ⟨i + 5, 0, 0, [nb i]⟩
def ltr (p : Nat → Bool) (n : Nat) : List En := ((List.range n).filter p).map mkE
theorem ltr_zero (p : Nat → Bool) : ltr p 0 = [] := rfl
theorem ltr_succ (p : Nat → Bool) (n : Nat) : ltr p (n + 1) = ltr p n ++ if p n then [mkE n] else [] := by
  unfold ltr
  rw [List.range_succ, List.filter_append, List.map_append]
  cases h : p n <;> simp [List.filter, h]
theorem ltr_congr {p q : Nat → Bool} {n : Nat} (h : ∀ i, i < n → p i = q i) : ltr p n = ltr q n := by
  unfold ltr
  congr 1
  apply List.filter_congr
  intro i hi
  exact h i (List.mem_range.1 hi)
theorem ltr_mem {p : Nat → Bool} {n : Nat} {e : En} (h : e ∈ ltr p n) : ∃ i, i < n ∧ p i = true ∧ e = mkE i := by
  unfold ltr at h
  obtain ⟨i, h1, h2⟩ := List.mem_map.1 h
  obtain ⟨h3, h4⟩ := List.mem_filter.1 h1
  exact ⟨i, List.mem_range.1 h3, h4, h2.symm⟩
theorem ltr_len (p : Nat → Bool) (n : Nat) : (ltr p n).length ≤ n := by
  unfold ltr
  rw [List.length_map]
  exact Nat.le_trans (List.length_filter_le _ _) (by simp)
theorem ltr_split (p : Nat → Bool) {k : Nat} : ∀ n, k < n → ∃ ys, ltr p n = ltr p k ++ (if p k then [mkE k] else []) ++ ys ∧ ltr (upd p k false) n = ltr p k ++ ys
  | 0, h => absurd h (by omega)
  | n + 1, h => by
    by_cases hk : k = n
    · subst hk
      refine ⟨[], by rw [ltr_succ, List.append_nil], ?_⟩
      rw [ltr_succ, List.append_nil]
      rw [ltr_congr (q := p) (fun i hi => by simp only [upd]; rw [if_neg (by omega)])]
      simp [upd]
    · obtain ⟨ys, h1, h2⟩ := ltr_split p (k := k) n (by omega)
      refine ⟨ys ++ if p n then [mkE n] else [], ?_, ?_⟩
      · rw [ltr_succ, h1, List.append_assoc]
      · rw [ltr_succ, h2, List.append_assoc]
        have : upd p k false n = p n := by simp only [upd]; rw [if_neg (by omega)]
        rw [this]
theorem mkE_wide {i : Nat} (h : i < 1000) : (mkE i).Wide := ⟨by show i + 5 < _; omega, by show 0 < _; omega, by show 0 < _; omega⟩
theorem ltr_wide {p : Nat → Bool} {n : Nat} (hn : n ≤ 1000) : ∀ x ∈ ltr p n, x.Wide := by
  intro x hx
  obtain ⟨i, h1, _, rfl⟩ := ltr_mem hx
  exact mkE_wide (by omega)
theorem ltr_other {p : Nat → Bool} {n k : Nat} (hn : n ≤ k) (hk : k < 100) : ∀ x ∈ ltr p n, x.nm ≠ (mkE k).nm := by
  intro x hx e
  obtain ⟨i, h1, _, rfl⟩ := ltr_mem hx
  have : nb i = nb k := by simpa [mkE] using e
  have := nb_inj (by omega) hk this
  omega
theorem ltr_rem (p : Nat → Bool) {k n : Nat} (hk : k < n) (hn : n ≤ 100) : remE (ltr p n) [nb k] = (if p k then 0 else 60) ∧ (p k = true → remL (ltr p n) [nb k] = ltr (upd p k false) n) := by
  obtain ⟨ys, h1, h2⟩ := ltr_split p n hk
  cases hp : p k
  · refine ⟨?_, fun h => by cases h⟩
    rw [if_neg (by simp)]
    apply rem_none
    intro e he hne
    obtain ⟨i, h3, h4, rfl⟩ := ltr_mem he
    have h5 : nb i = nb k := by simpa [mkE] using hne
    have := nb_inj (by omega) (by omega) h5
    subst this
    rw [hp] at h4
    cases h4
  · rw [hp, if_pos rfl, List.append_assoc] at h1
    have := rem_mid (xs := ltr p k) (ys := ys) (e := mkE k) (ltr_other (Nat.le_refl _) (by omega))
    rw [h1, h2]
    refine ⟨?_, fun _ => this.2⟩
    rw [if_pos rfl]
    exact this.1
/-- What comes at place i, behind those ahead of it. -/
theorem ltr_at (p : Nat → Bool) {k n : Nat} (hk : k < n) (hp : p k = true) : ∃ hj : (ltr p k).length < (ltr p n).length, (ltr p n)[(ltr p k).length] = mkE k := by
  obtain ⟨ys, h1, _⟩ := ltr_split p n hk
  rw [hp, if_pos rfl] at h1
  have h2 : (ltr p k).length < (ltr p n).length := by rw [h1]; simp
  refine ⟨h2, ?_⟩
  simp [h1]
theorem lastCk_snoc (es : List En) (e : En) : lastCk (es ++ [e]) = e.ck := by
  unfold lastCk lastAt
  simp
theorem lastCk_lt {es : List En} {b : Nat} (hb : 0 < b) (h : ∀ e ∈ es, e.ck < b) : lastCk es < b := by
  unfold lastCk lastAt
  split
  · exact hb
  · rename_i h0
    rw [List.getD_eq_getElem?_getD, List.getElem?_eq_getElem (by omega)]
    exact h _ (List.getElem_mem _)
theorem add_ok {es : List En} {e : En} (h1 : nameOk e.nm = true) (h2 : ∀ x ∈ es, x.nm ≠ e.nm) (h3 : lastCk es < e.ck) : addE es e = 0 ∧ addL es e = es ++ [e] := by
  have : addE es e = 0 := by
    unfold addE
    rw [if_neg (by rw [h1]; simp), fnd_none h2, if_neg (by omega), if_neg (by omega)]
  exact ⟨this, if_pos this⟩
theorem ltr_add (k : Nat) (hk : k < 100) (p : Nat → Bool) (hp : p k = true) : addE (ltr p k) (mkE k) = 0 ∧ addL (ltr p k) (mkE k) = ltr p (k + 1) := by
  have := add_ok (es := ltr p k) (e := mkE k) (nb_ok hk) (ltr_other (Nat.le_refl _) hk) (lastCk_lt (by show 0 < k + 5; omega) fun e he => by
    obtain ⟨i, h1, _, rfl⟩ := ltr_mem he
    show i + 5 < k + 5
    omega)
  refine ⟨this.1, ?_⟩
  rw [this.2, ltr_succ, hp, if_pos rfl]
end Go.Proofs.Ytbeahhijmgkfhaa

namespace Go.Proofs.Ytbeahhijmgkfhaa
open Go.RowKit Go.Shelf

theorem built_any (c : Int) (v : ByteArray) : Try.prog.built 51 [(0, .int .u64 c), (2, .string v)] = some #[.int .u64 c, .int .u32 0, .int .u32 0, .string v] := by kernel_rfl
theorem built_mk (k : Nat) : Try.prog.built 51 [(0, .int .u64 ((k : Int) + 5)), (2, .string (txt [nb k]))] = some (ec (mkE k)).toArray := by
  rw [built_any]
  rfl
theorem upd_lt (k : Nat) : upd (fun i => decide (i < k)) k true = fun i => decide (i < k + 1) := by
  funext i
  simp only [upd]
  split
  · rename_i h; rw [h]; simp
  · rename_i h
    exact decide_eq_decide.2 (by omega)
theorem ltr_init (k n : Nat) (h : k ≤ n) : ltr (fun i => decide (i < k)) n = ltr (fun i => decide (i < k)) k := by
  induction n with
  | zero => obtain rfl : k = 0 := by omega
            rfl
  | succ n ih =>
    by_cases hk : k = n + 1
    · rw [hk]
    · rw [ltr_succ, ih (by omega), decide_eq_false (by omega)]
      simp
theorem wrap_u8 {x : Int} (h : 0 ≤ x) (h2 : x < 256) : IntKind.u8.wrap x = x := IntWalk.u8_in _ (by omega)
theorem wrap_u64 {x : Int} (h : 0 ≤ x) (h2 : x < 18446744073709551616) : IntKind.u64.wrap x = x := IntWalk.u64_in _ (by omega)

end Go.Proofs.Ytbeahhijmgkfhaa

namespace Go.Proofs.Ytbeahhijmgkfhaa

theorem getD_app_lt {es : List En} {e : En} {k : Nat} (h : k < es.length) : (es ++ [e]).getD k default = es.getD k default := by
  rw [List.getD_eq_getElem?_getD, List.getD_eq_getElem?_getD, List.getElem?_append_left h]
theorem lastAt_app {es : List En} {e : En} {k : Nat} (h : k ≤ es.length) : lastAt (es ++ [e]) k = lastAt es k := by
  unfold lastAt
  split
  · rfl
  · rename_i h0
    rw [getD_app_lt (by omega)]
theorem okB_snoc {es : List En} {e : En} (h : okB es = true) (h1 : nameOk e.nm = true) (h2 : ∀ x ∈ es, x.nm ≠ e.nm) (h3 : lastCk es < e.ck) : okB (es ++ [e]) = true := by
  unfold okB at h ⊢
  rw [Bool.and_eq_true, List.all_eq_true, decide_eq_true_eq] at h ⊢
  obtain ⟨ha, hn⟩ := h
  refine ⟨fun k hk => ?_, ?_⟩
  · have hk' : k < es.length + 1 := by simpa using hk
    unfold stepOk
    by_cases hl : k < es.length
    · have := ha k (List.mem_range.2 hl)
      unfold stepOk at this
      rw [getD_app_lt hl, lastAt_app (by omega)]
      exact this
    · obtain rfl : k = es.length := by omega
      rw [lastAt_app (Nat.le_refl _)]
      have : (es ++ [e]).getD es.length default = e := by simp [List.getD_eq_getElem?_getD]
      rw [this, h1]
      simpa [lastCk] using h3
  · rw [List.map_append, List.nodup_append]
    refine ⟨hn, by simp, ?_⟩
    intro a ha' b hb
    obtain ⟨x, hx, rfl⟩ := List.mem_map.1 ha'
    simp only [List.map_cons, List.map_nil, List.mem_singleton] at hb
    rw [hb]
    exact h2 x hx
theorem fnd_some {es : List En} {nm : List UInt8} (h : ∃ e ∈ es, e.nm = nm) : 0 ≤ fnd es nm := by
  obtain ⟨e, he, hn⟩ := h
  unfold fnd
  rw [if_pos]
  · omega
  · rw [List.findIdx_lt_length]
    exact ⟨e, he, by simpa using hn⟩
theorem encs_le2 {m : Nat} : ∀ es : List En, (∀ e ∈ es, e.nm.length ≤ m) → (encs es).length ≤ es.length * (23 + m)
  | [], _ => Nat.zero_le _
  | e :: r, h => by
    have ih := encs_le2 r fun x hx => h x (List.mem_cons_of_mem _ hx)
    have h1 := h e (List.mem_cons_self ..)
    have h2 : pad e.nm.length ≤ 3 := by unfold pad; omega
    rw [encs_cons, List.length_append, enc1_length, List.length_cons, Nat.succ_mul]
    omega
theorem okB_nil : okB [] = true := rfl
/-- What DirAdds knows: the entries, and which letters are there. -/
structure AI (i : Nat) (p : Nat → Bool) (es : List En) : Prop where
  ok : okB es = true
  wide : ∀ e ∈ es, e.Wide
  last : lastCk es ≤ i
  len : es.length ≤ i
  has : ∀ k, k < 26 → (p k = true ↔ ∃ e ∈ es, e.nm = [nb k])
def addX (i k : Nat) : En := ⟨i + 1, i, 0, [nb k]⟩
theorem AI.nil : AI 0 (fun _ => false) [] := ⟨rfl, (fun e h => by cases h), Nat.le_refl _, Nat.le_refl _, fun k _ => ⟨fun h => by (cases h), fun ⟨e, h, _⟩ => by cases h⟩⟩
theorem AI.skip {i : Nat} {p : Nat → Bool} {es : List En} (h : AI i p es) : AI (i + 1) p es := ⟨h.ok, h.wide, by have := h.last; omega, by have := h.len; omega, h.has⟩
theorem addX_wide {i k : Nat} (h : i < 1000) : (addX i k).Wide := ⟨by show i + 1 < _; omega, by show i < _; omega, by show 0 < _; omega⟩
theorem AI.old {i k : Nat} {p : Nat → Bool} {es : List En} (h : AI i p es) (hk : k < 26) (hp : p k = true) : addE es (addX i k) = 61 ∧ addL es (addX i k) = [] := by
  have : addE es (addX i k) = 61 := by
    unfold addE
    rw [if_neg (by rw [show (addX i k).nm = [nb k] from rfl, nb_ok (by omega)]; simp), if_pos (show 0 ≤ fnd es (addX i k).nm from fnd_some ((h.has k hk).1 hp))]
  refine ⟨this, ?_⟩
  unfold addL
  rw [this, if_neg (by omega)]
theorem AI.new {i k : Nat} {p : Nat → Bool} {es : List En} (h : AI i p es) (hk : k < 26) (hi : i < 1000) (hp : p k = false) :
    addE es (addX i k) = 0 ∧ addL es (addX i k) = es ++ [addX i k] ∧ fnd (es ++ [addX i k]) [nb k] = (es.length : Int) ∧ fnd es [nb k] = -1 ∧ AI (i + 1) (upd p k true) (es ++ [addX i k]) := by
  have hno : ∀ x ∈ es, x.nm ≠ (addX i k).nm := fun x hx e => by
    have := (h.has k hk).2 ⟨x, hx, e⟩
    rw [hp] at this
    cases this
  have hlt : lastCk es < (addX i k).ck := by
    have := h.last
    show lastCk es < i + 1
    omega
  have hok := nb_ok (g := k) (by omega)
  obtain ⟨a1, a2⟩ := add_ok (e := addX i k) hok hno hlt
  refine ⟨a1, a2, fnd_mid (ys := []) hno, fnd_none hno, okB_snoc h.ok hok hno hlt, ?_, ?_, ?_, ?_⟩
  · intro e he
    rcases List.mem_append.1 he with h1 | h1
    · exact h.wide e h1
    · rw [List.mem_singleton.1 h1]
      exact addX_wide hi
  · rw [lastCk_snoc]
    exact Nat.le_refl _
  · have := h.len
    rw [List.length_append]
    simp
    exact this
  · intro j hj
    by_cases hjk : j = k
    · subst hjk
      simp only [upd, if_true, true_iff]
      exact ⟨addX i j, by simp, rfl⟩
    · simp only [upd, if_neg hjk]
      rw [h.has j hj]
      constructor
      · rintro ⟨e, he, hn⟩
        exact ⟨e, List.mem_append_left _ he, hn⟩
      · rintro ⟨e, he, hn⟩
        rcases List.mem_append.1 he with h1 | h1
        · exact ⟨e, h1, hn⟩
        · rw [List.mem_singleton.1 h1] at hn
          have : nb k = nb j := by simpa [addX] using hn
          exact absurd (nb_inj (by omega) (by omega) this).symm hjk
theorem put_len {es : List En} (h : okB es = true) {n : Nat} (hn : es.length ≤ n) : (putE es).length ≤ n * 47 := by
  have h1 := encs_le2 es (okB_names es h)
  have : putE es = encs es := if_pos h
  rw [this]
  have h2 : es.length * (23 + 24) ≤ n * 47 := Nat.mul_le_mul_right _ hn
  omega
theorem chk_ok {es : List En} (h : okB es = true) : chkE es = 0 := if_pos h
end Go.Proofs.Ytbeahhijmgkfhaa

namespace Go.Proofs.Ytbeahhijmgkfhaa
open Go.RowKit Go.Shelf

theorem parts_mono {l : List UInt8} {k : Nat} (h : parts (l.take k) = true) : parts l = true := by
  unfold parts at h ⊢
  rw [List.any_eq_true] at h ⊢
  obtain ⟨x, hx, h2⟩ := h
  exact ⟨x, List.mem_of_mem_take hx, h2⟩
theorem nameE_parts {l : List UInt8} (h : parts l = true) : nameE l = 67 := by
  unfold nameE
  rw [nameOk_head, h]
  simp
theorem nameE_head {l : List UInt8} (h : headOk l = false) : nameE l = 67 := by
  unfold nameE
  rw [nameOk_head, h]
  simp
theorem nameE_ok {l : List UInt8} (h : headOk l = true) (h2 : parts l = false) : nameE l = 0 := by
  unfold nameE
  rw [nameOk_head, h, h2]
  simp

set_option maxRecDepth 100000 in
set_option maxHeartbeats 4000000 in
theorem refName_any (l : List UInt8) (w : World) : Calls Try.prog 74 #[.string (txt l)] w fun e w' => e = .returned (.int .i64 (nameE l)) ∧ w' = w := by
  have hz := txt_size l
  have ht := txt_toList l
  by_cases hl : l = []
  · subst hl
    have HE : Hid (nameE [] = 67) := rfl
    rw [HE.out]
    go_enter Try.func74, Try.ntmps74
    go_wp2_with fail
    go_ret
    exact ⟨rfl, rfl⟩
  have hl0 : (l == []) = false := beq_false_of_ne hl
  have hl1 : l.isEmpty = false := by cases l with | nil => exact absurd rfl hl | cons a b => rfl
  have hpos : 1 ≤ l.length := List.length_pos_iff.2 hl
  have HH : Hid (headOk l = (decide (l.length ≤ 24) && !(l == [46]) && !(l == [46, 46]))) := by
    show _ = _
    unfold headOk
    rw [decide_eq_true hpos]
    simp
  by_cases h24 : 24 < l.length
  · have h24' : (24 : Int) < (l.length : Int) := by omega
    have HE : Hid (nameE l = 67) := nameE_head (by rw [HH.out, decide_eq_false (by omega)]; rfl)
    rw [HE.out]
    clear hl
    go_enter Try.func74, Try.ntmps74
    go_wp2_with fail
    go_ret
    exact ⟨rfl, rfl⟩
  have h24' : (l.length : Int) ≤ 24 := by omega
  rw [decide_eq_true (Nat.le_of_not_lt h24)] at HH
  cases h3 : (l == [46])
  rotate_left
  · have HE : Hid (nameE l = 67) := nameE_head (by rw [HH.out, h3]; rfl)
    rw [HE.out]
    clear hl
    go_enter Try.func74, Try.ntmps74
    go_wp2_with fail
    go_ret
    exact ⟨rfl, rfl⟩
  cases h4 : (l == [46, 46])
  rotate_left
  · have HE : Hid (nameE l = 67) := nameE_head (by rw [HH.out, h3, h4]; rfl)
    rw [HE.out]
    clear hl
    go_enter Try.func74, Try.ntmps74
    go_wp2_with fail
    go_ret
    exact ⟨rfl, rfl⟩
  have HO : Hid (headOk l = true) := by show _ = _; rw [HH.out, h3, h4]; rfl
  clear hl HH
  go_enter Try.func74, Try.ntmps74
  go_wp2_with fail
  clear h3 h4 hl0 hl1 h24'
  go_loop [3] (fun i => ∃ k : Nat, k ≤ l.length ∧ i = .int .i64 k ∧ Hid (parts (l.take k) = false)) (fun i => l.length - (intOf i).toNat)
  case atStart => exact ⟨0, Nat.zero_le _, rfl, rfl⟩
  case round =>
    obtain ⟨k, hk, rfl, HP⟩ := hrel
    by_cases hlt : k < l.length
    · have hkt : k < (txt l).size := by rw [hz]; exact hlt
      have hlt' : (k : Int) < (l.length : Int) := by omega
      obtain ⟨x, hx, hp⟩ := parts_at l k hlt
      have hx := hx hkt
      rw [HP.out] at hp
      have HQ := Lib.hid hp
      have n0 : ((x.toNat : Int) == 0) = (x == 0) := by have := u8_ne x 0 0 rfl; simpa [bne] using this
      have n47 : ((x.toNat : Int) == 47) = (x == 47) := by have := u8_ne x 47 47 rfl; simpa [bne] using this
      clear hp
      cases hx0 : (x == 0)
      rotate_left
      · have HE : Hid (nameE l = 67) := nameE_parts (parts_mono (k := k + 1) (by rw [HQ.out, hx0]; rfl))
        rw [hx0] at n0
        clear hx0
        go_wp2_with fail
        go_ret
        exact ⟨by rw [HE.out] <;> rfl, rfl⟩
      · cases hx47 : (x == 47)
        rotate_left
        · have HE : Hid (nameE l = 67) := nameE_parts (parts_mono (k := k + 1) (by rw [HQ.out, hx0, hx47]; rfl))
          rw [hx0] at n0
          rw [hx47] at n47
          clear hx0 hx47
          go_wp2_with fail
          go_ret
          exact ⟨by rw [HE.out] <;> rfl, rfl⟩
        · rw [hx0] at n0
          rw [hx47] at n47
          have HR : Hid (parts (l.take (k + 1)) = false) := by show _ = _; rw [HQ.out, hx0, hx47]; rfl
          clear hx0 hx47
          go_wp2_with fail
          go_round
          case rel => exact ⟨k + 1, by omega, by go_num, HR⟩
          case measure => simp [intOf]; omega
    · obtain rfl : k = l.length := by omega
      have HE : Hid (nameE l = 0) := nameE_ok HO.out (by have := HP.out; rwa [List.take_of_length_le (Nat.le_refl _)] at this)
      go_wp2_with fail
      go_ret
      exact ⟨by rw [HE.out] <;> rfl, rfl⟩

theorem fnd_at {es : List En} {nm : List UInt8} {k : Nat} (hk : k < es.length) (hno : ∀ x ∈ es.take k, x.nm ≠ nm) (he : es[k].nm = nm) : fnd es nm = (k : Int) := by
  have h1 : es = es.take k ++ es[k] :: es.drop (k + 1) := by
    rw [List.getElem_cons_drop]
    exact (List.take_append_drop k es).symm
  have h2 := fnd_mid (xs := es.take k) (ys := es.drop (k + 1)) (e := es[k]) (by rw [he]; exact hno)
  rw [← h1, he, List.length_take, Nat.min_eq_left (Nat.le_of_lt hk)] at h2
  exact h2

set_option maxRecDepth 100000 in
set_option maxHeartbeats 4000000 in
theorem refFind_any (A : Option Addr) (n c : Nat) (es : List En) (nm : List UInt8) (w : World) (h : ES w A n es) (hn : n ≤ 10000000) : Calls Try.prog 75 #[.slice A n c, .string (txt nm)] w fun e w' => e = .returned (.int .i64 (fnd es nm)) ∧ w' = w := by
  have HS := Lib.hid h
  have HN : Hid (es.length = n) := h.1
  have hb := txt_toList nm
  clear h
  go_enter Try.func75, Try.ntmps75
  go_wp2_with fail
  go_loop [5] (fun i => ∃ k : Nat, k ≤ n ∧ i = .int .i64 k ∧ Hid (∀ x ∈ es.take k, x.nm ≠ nm)) (fun i => n - (intOf i).toNat)
  case atStart => exact ⟨0, Nat.zero_le _, rfl, fun x hx => by cases hx⟩
  case round =>
    obtain ⟨k, hk, rfl, HP⟩ := hrel
    by_cases hlt : k < n
    · have hlt' : (k : Int) < (n : Int) := by omega
      obtain ⟨b, o, rfl, _, hj, hc⟩ := HS.out.at hlt
      have HF : Hid (es[k].nm = nm → fnd es nm = (k : Int)) := fun e => fnd_at hj HP.out e
      have HT : Hid (es.take (k + 1) = es.take k ++ [es[k]]) := List.take_succ_eq_append_getElem hj
      generalize es[k] = e at *
      have k3 : w.cell? ⟨b, o + k * 4 + 3, none⟩ = some (.string (txt e.nm)) := hc 3 _ rfl
      have ha := txt_toList e.nm
      clear hc
      cases hd : (e.nm == nm)
      · have HR : Hid (∀ x ∈ es.take (k + 1), x.nm ≠ nm) := by
          intro x hx
          rw [HT.out] at hx
          rcases List.mem_append.1 hx with h1 | h1
          · exact HP.out x h1
          · rw [List.mem_singleton.1 h1]
            simpa using hd
        go_wp2_with fail
        go_round
        case rel => exact ⟨k + 1, by omega, by go_num, HR⟩
        case measure => simp [intOf]; omega
      · have HE := Lib.hid (HF.out (by simpa using hd))
        go_wp2_with fail
        go_ret
        exact ⟨by rw [HE.out] <;> rfl, rfl⟩
    · obtain rfl : k = n := by omega
      have HE : Hid (fnd es nm = -1) := fnd_none (by have := HP.out; rwa [List.take_of_length_le (by rw [HN.out]; exact Nat.le_refl _)] at this)
      go_wp2_with fail
      go_ret
      exact ⟨by rw [HE.out] <;> rfl, rfl⟩
end Go.Proofs.Ytbeahhijmgkfhaa

namespace Go.Proofs.Ytbeahhijmgkfhaa
open Go.RowKit Go.Shelf

theorem lastAt_next {es : List En} {k : Nat} (hk : k < es.length) : lastAt es (k + 1) = es[k].ck := by
  unfold lastAt
  rw [if_neg (by omega), List.getD_eq_getElem?_getD, show k + 1 - 1 = k by omega, List.getElem?_eq_getElem hk]
  rfl
theorem okB_before {es : List En} (h : okB es = true) {k : Nat} (hk : k < es.length) : ∀ x ∈ es.take k, x.nm ≠ es[k].nm := by
  have h1 : es = es.take k ++ es[k] :: es.drop (k + 1) := by
    rw [List.getElem_cons_drop]
    exact (List.take_append_drop k es).symm
  unfold okB at h
  rw [Bool.and_eq_true, decide_eq_true_eq] at h
  have h2 := h.2
  generalize es[k] = e at *
  rw [h1, List.map_append, List.nodup_append] at h2
  intro x hx
  exact h2.2.2 x.nm (List.mem_map_of_mem hx) e.nm (by simp)
theorem fnd_before {es : List En} {nm : List UInt8} {k : Nat} (h : fnd es nm = (k : Int)) : ∀ x ∈ es.take k, x.nm ≠ nm := by
  unfold fnd at h
  split at h
  · have h1 : es.findIdx (fun e => e.nm == nm) = k := by omega
    intro x hx e
    obtain ⟨j, hj, rfl⟩ := List.getElem_of_mem hx
    rw [List.length_take] at hj
    rw [List.getElem_take] at e
    have := List.not_of_lt_findIdx (p := fun e : En => e.nm == nm) (xs := es) (i := j) (by omega)
    simp [e] at this
  · omega
theorem lastCk_take {es : List En} {k : Nat} (hk : k ≤ es.length) : lastCk (es.take k) = lastAt es k := by
  unfold lastCk
  rw [List.length_take, Nat.min_eq_left hk]
  unfold lastAt
  split
  · rfl
  · rename_i h0
    rw [List.getD_eq_getElem?_getD, List.getD_eq_getElem?_getD, List.getElem?_take_of_lt (by omega)]
/-- One entry more that may be. -/
theorem okB_more {es : List En} {k : Nat} (hk : k < es.length) (h : okB (es.take k) = true) (h1 : nameOk es[k].nm = true) (h2 : fnd es es[k].nm = (k : Int)) (h3 : lastAt es k < es[k].ck) : okB (es.take (k + 1)) = true := by
  rw [List.take_succ_eq_append_getElem hk]
  exact okB_snoc h h1 (fnd_before h2) (by rw [lastCk_take (by omega)]; exact h3)
theorem okB_bad {es : List En} {k : Nat} (hk : k < es.length) (h : ¬ (nameOk es[k].nm = true ∧ lastAt es k < es[k].ck ∧ fnd es es[k].nm = (k : Int))) : okB es = false := by
  cases ho : okB es
  · rfl
  · have h1 := okB_at es ho k hk
    exact absurd ⟨h1.1, h1.2, fnd_at hk (okB_before ho hk) rfl⟩ h
theorem fnd_zero {es : List En} (h : 0 < es.length) : fnd es es[0].nm = ((0 : Nat) : Int) := fnd_at h (fun x hx => by cases hx) rfl

set_option maxRecDepth 100000 in
set_option maxHeartbeats 8000000 in
theorem refMay_any (A : Option Addr) (n c : Nat) (es : List En) (w : World) (h : ES w A n es) (hn : n ≤ 10000000) : Calls Try.prog 63 #[.slice A n c] w fun e w' => e = .returned (.bool (okB es)) ∧ Below w.heap.size w w' := by
  have HS := Lib.hid h
  have HN : Hid (es.length = n) := h.1
  clear h
  go_enter Try.func63, Try.ntmps63
  go_wp2_with fail
  go_loopw [3] (fun i wr => ∃ k : Nat, k ≤ n ∧ i = .int .i64 k ∧ Hid (okB (es.take k) = true) ∧ Hid (Below w.heap.size w wr)) (fun i _ => n - (intOf i).toNat)
  case atStart => exact ⟨0, Nat.zero_le _, rfl, rfl, Below.refl _ _⟩
  case round =>
    obtain ⟨k, hk, rfl, HP, HW⟩ := hrel
    have HSr := Lib.hid (HS.out.below HW.out)
    have HWK : Hid (∀ d, Below w.heap.size w (wr.drewN d)) := fun d => ⟨HW.out.os, HW.out.tape, HW.out.output, HW.out.size, HW.out.block⟩
    by_cases hlt : k < n
    · have hlt' : (k : Int) < (n : Int) := by omega
      obtain ⟨b, o, rfl, _, hj, hc⟩ := HSr.out.at hlt
      have HNM := fun W => Lib.hid (refName_any es[k].nm W)
      have HFD := fun d => Lib.hid (refFind_any (some ⟨b, o, none⟩) n c es es[k].nm (wr.drewN d) (HSr.out.drewN d) hn)
      have HMORE := Lib.hid (okB_more hj HP.out)
      have HBAD := Lib.hid (okB_bad hj)
      cases hnm : nameOk es[k].nm
      · have HE : Hid (okB es = false) := HBAD.out (by rw [hnm]; rintro ⟨h, _⟩; cases h)
        have HNE : Hid (nameE es[k].nm = 67) := if_neg (by rw [hnm]; simp)
        rw [HNE.out] at HNM
        clear HMORE HBAD
        generalize es[k] = e at *
        have k3 : wr.cell? ⟨b, o + k * 4 + 3, none⟩ = some (.string (txt e.nm)) := hc 3 _ rfl
        clear hc
        go_wp2_with fail
        go_quiet (first
          | (go_at_call 74; exact Calls.quiet_of_same (HNM _).out)
          | (go_at_call 75; exact Calls.quiet_of_same (HFD _).out))
        go_wp2_with fail
        go_ret
        exact ⟨by rw [HE.out] <;> rfl, HWK.out _⟩
      have HNE : Hid (nameE es[k].nm = 0) := if_pos hnm
      rw [HNE.out] at HNM
      by_cases h0 : es[k].ck = 0
      · have HE : Hid (okB es = false) := HBAD.out (fun h => by have := h.2.1; omega)
        have k0 : wr.cell? ⟨b, o + k * 4, none⟩ = some (.int .u64 0) := (hc 0 _ rfl).trans (by rw [h0]; rfl)
        clear HMORE HBAD h0 hnm
        generalize es[k] = e at *
        have k3 : wr.cell? ⟨b, o + k * 4 + 3, none⟩ = some (.string (txt e.nm)) := hc 3 _ rfl
        clear hc
        go_wp2_with fail
        go_quiet (first
          | (go_at_call 74; exact Calls.quiet_of_same (HNM _).out)
          | (go_at_call 75; exact Calls.quiet_of_same (HFD _).out))
        go_wp2_with fail
        go_ret
        exact ⟨by rw [HE.out] <;> rfl, HWK.out _⟩
      have hck : ((es[k].ck : Int) == 0) = false := beq_false_of_ne (by omega)
      have hck2 : ¬ (es[k].ck : Int) = 0 := by omega
      rcases Nat.eq_zero_or_pos k with hk0 | hkp
      · subst hk0
        have HR : Hid (okB (es.take (0 + 1)) = true) := HMORE.out hnm (fnd_zero hj) (by show 0 < _; omega)
        have HFZ : Hid (fnd es es[0].nm = ((0 : Nat) : Int)) := fnd_zero hj
        rw [HFZ.out] at HFD
        clear HMORE HBAD h0 hnm HFZ HNE
        generalize es[0] = e at *
        have k0 : wr.cell? ⟨b, o + 0 * 4, none⟩ = some (.int .u64 (e.ck : Int)) := hc 0 _ rfl
        have k3 : wr.cell? ⟨b, o + 0 * 4 + 3, none⟩ = some (.string (txt e.nm)) := hc 3 _ rfl
        rw [Nat.zero_mul, Nat.add_zero] at k0 k3
        clear hc
        go_wp2_with fail
        go_quiet (first
          | (go_at_call 74; exact Calls.quiet_of_same (HNM _).out)
          | (go_at_call 75; exact Calls.quiet_of_same (HFD _).out))
        go_wp2_with fail
        go_roundw
        case rel => exact ⟨1, by omega, by go_num, HR, HWK.out _⟩
        case measure => simp [intOf]; omega
      obtain ⟨q, hkq⟩ : ∃ q, k = q + 1 := ⟨k - 1, by omega⟩
      obtain ⟨b2, o2, e2, _, hj2, hc2⟩ := HSr.out.at (k := q) (by omega)
      injection e2 with e2
      injection e2 with e3 e4 _
      subst e3 e4
      have HLA : Hid (lastAt es k = es[q].ck) := by subst hkq; exact lastAt_next hj2
      have HKQ := Lib.hid hkq
      have hqp : (0 : Int) < (k : Int) := by omega
      have hqs : IntKind.i64.wrap ((k : Int) - 1) = (q : Int) := by rw [show (k : Int) - 1 = (q : Int) by omega]; exact IntWalk.i64_in _ (by omega)
      have hqn : (q : Int) < (n : Int) := by omega
      clear hkq
      by_cases hle : es[k].ck ≤ es[q].ck
      · have HE : Hid (okB es = false) := HBAD.out (fun h => by have := h.2.1; rw [HLA.out] at this; omega)
        have hdl : decide (es[k].ck ≤ es[q].ck) = true := decide_eq_true hle
        clear HMORE HBAD h0 hnm HLA hle HNE
        generalize es[k] = e at *
        generalize es[q] = e' at *
        have k0 : wr.cell? ⟨b, o + k * 4, none⟩ = some (.int .u64 (e.ck : Int)) := hc 0 _ rfl
        have k3 : wr.cell? ⟨b, o + k * 4 + 3, none⟩ = some (.string (txt e.nm)) := hc 3 _ rfl
        have j0 : wr.cell? ⟨b, o + q * 4, none⟩ = some (.int .u64 (e'.ck : Int)) := hc2 0 _ rfl
        clear hc hc2
        go_wp2_with fail
        go_quiet (first
          | (go_at_call 74; exact Calls.quiet_of_same (HNM _).out)
          | (go_at_call 75; exact Calls.quiet_of_same (HFD _).out))
        go_wp2_with fail
        go_ret
        exact ⟨by rw [HE.out] <;> rfl, HWK.out _⟩
      have hdl : decide (es[k].ck ≤ es[q].ck) = false := decide_eq_false hle
      by_cases hf : fnd es es[k].nm = (k : Int)
      · have HR : Hid (okB (es.take (k + 1)) = true) := HMORE.out hnm hf (by rw [HLA.out]; omega)
        rw [hf] at HFD
        clear HMORE HBAD h0 hnm HLA hle hf HNE
        generalize es[k] = e at *
        generalize es[q] = e' at *
        have k0 : wr.cell? ⟨b, o + k * 4, none⟩ = some (.int .u64 (e.ck : Int)) := hc 0 _ rfl
        have k3 : wr.cell? ⟨b, o + k * 4 + 3, none⟩ = some (.string (txt e.nm)) := hc 3 _ rfl
        have j0 : wr.cell? ⟨b, o + q * 4, none⟩ = some (.int .u64 (e'.ck : Int)) := hc2 0 _ rfl
        clear hc hc2
        go_wp2_with fail
        go_quiet (first
          | (go_at_call 74; exact Calls.quiet_of_same (HNM _).out)
          | (go_at_call 75; exact Calls.quiet_of_same (HFD _).out))
        go_wp2_with fail
        go_roundw
        case rel => exact ⟨k + 1, by omega, by go_num, HR, HWK.out _⟩
        case measure => simp [intOf]; omega
      · have HE : Hid (okB es = false) := HBAD.out (fun h => hf h.2.2)
        have hdf : (fnd es es[k].nm != (k : Int)) = true := by simpa using hf
        have hdg : ¬ fnd es es[k].nm = (k : Int) := by simpa using hf
        clear HMORE HBAD h0 hnm HLA hle hf HNE
        generalize fnd es es[k].nm = f at *
        generalize es[k] = e at *
        generalize es[q] = e' at *
        have k0 : wr.cell? ⟨b, o + k * 4, none⟩ = some (.int .u64 (e.ck : Int)) := hc 0 _ rfl
        have k3 : wr.cell? ⟨b, o + k * 4 + 3, none⟩ = some (.string (txt e.nm)) := hc 3 _ rfl
        have j0 : wr.cell? ⟨b, o + q * 4, none⟩ = some (.int .u64 (e'.ck : Int)) := hc2 0 _ rfl
        clear hc hc2
        go_wp2_with fail
        go_quiet (first
          | (go_at_call 74; exact Calls.quiet_of_same (HNM _).out)
          | (go_at_call 75; exact Calls.quiet_of_same (HFD _).out))
        go_wp2_with fail
        go_ret
        exact ⟨by rw [HE.out] <;> rfl, HWK.out _⟩
    · obtain rfl : k = n := by omega
      have HE : Hid (okB es = true) := by have := HP.out; rwa [List.take_of_length_le (by rw [HN.out]; exact Nat.le_refl _)] at this
      go_wp2_with fail
      go_ret
      exact ⟨by rw [HE.out] <;> rfl, HW.out⟩
end Go.Proofs.Ytbeahhijmgkfhaa
