/-
  Rows of handles, texts, numbers and bools that a law's call appends to, beside its variables (layer 13).
-/
import Derived.Test.YtpbpdnjlomhkdaaGreatOKit
import Derived.Test.YtpbpdnjlomhkdaaGreatOPRow
namespace Go.Proofs.YtpbpdnjlomhkdaaGreat
open Go.RowKit Go.Shelf

/-- No byte, no number of 64 bits without sign. -/
def Dry (u : Value) : Prop := (∀ z, u ≠ .int .u8 z) ∧ ∀ z, u ≠ .int .u64 z
/-- A row of elements of type e (sz cells each) in a block of the call's own, or none yet. -/
structure TR (W : World) (B : Nat) (e : TypeId) (sz : Nat) (A : Option Addr) (n k : Nat) (xs : List Value) : Prop where
  len : xs.length = n * sz
  fit : n ≤ k ∧ k ≤ maxLen
  row : (A = none ∧ k = 0) ∨ ∃ b, A = some ⟨b, 0, none⟩ ∧ B ≤ b ∧ ∃ cur : Array Value, W.heap[b]? = some (.cells cur e (0, 0)) ∧ cur.size = k * sz ∧ cur.toList.take (n * sz) = xs ∧ ∀ u ∈ cur.toList, Dry u
section
variable {W W' : World} {B : Nat} {e : TypeId} {sz : Nat} {A : Option Addr} {n k : Nat} {xs : List Value}
theorem TR.nil (W : World) (B : Nat) (e : TypeId) (sz : Nat) : TR W B e sz none 0 0 [] := ⟨by simp, ⟨Nat.le_refl _, Nat.zero_le _⟩, .inl ⟨rfl, rfl⟩⟩
theorem TR.block (h : TR W B e sz A n k xs) (hb : ∀ b, A = some ⟨b, 0, none⟩ → b < W.heap.size → W'.heap[b]? = W.heap[b]?) : TR W' B e sz A n k xs := by
  refine ⟨h.len, h.fit, ?_⟩
  rcases h.row with h1 | ⟨b, h1, h2, cur, h3, h4⟩
  · exact .inl h1
  · exact .inr ⟨b, h1, h2, cur, (hb b h1 (Array.getElem?_eq_some_iff.1 h3).1).trans h3, h4⟩
theorem TR.below (h : TR W B e sz A n k xs) (hb : Below W.heap.size W W') : TR W' B e sz A n k xs := h.block fun b _ hl => hb.block b hl
/-- A block of another type is written. -/
theorem TR.keep {g : Nat} {cs : List Value} {ty : TypeId} (h : TR W B e sz A n k xs) (hg : Bw W g cs ty) (ht : ty ≠ e) (hk : Keep (· ≠ g) W W') : TR W' B e sz A n k xs := by
  refine h.block fun b hb hl => hk.block b ?_
  rintro rfl
  rcases h.row with ⟨h1, _⟩ | ⟨b', h1, _, cur, h3, _⟩
  · rw [h1] at hb; cases hb
  · rw [h1] at hb
    injection hb with hb
    injection hb with hb
    subst hb
    have := hg
    unfold Bw at this
    rw [h3] at this
    injection this with this
    injection this with _ this
    exact ht this.symm
theorem TR.lt (h : TR W B e sz A n k xs) {b : Nat} (hb : A = some ⟨b, 0, none⟩) : B ≤ b ∧ b < W.heap.size := by
  rcases h.row with ⟨h1, _⟩ | ⟨b', h1, h2, cur, h3, _⟩
  · rw [h1] at hb; cases hb
  · rw [h1] at hb
    injection hb with hb
    injection hb with hb
    subst hb
    exact ⟨h2, (Array.getElem?_eq_some_iff.1 h3).1⟩
/-- Where it lies, what its cells are. -/
theorem TR.at (h : TR W B e sz A n k xs) (hn : 0 < n) : ∃ b, A = some ⟨b, 0, none⟩ ∧ B ≤ b ∧ b < W.heap.size ∧ (∀ j u, xs[j]? = some u → W.cell? ⟨b, j, none⟩ = some u) ∧ (∀ o, W.frozen? ⟨b, o, none⟩ = false) ∧ ∀ o u, W.cell? ⟨b, o, none⟩ = some u → Dry u := by
  rcases h.row with ⟨_, h1⟩ | ⟨b, h1, h2, cur, h3, h4, h5, h6⟩
  · have := h.fit.1; omega
  · refine ⟨b, h1, h2, (Array.getElem?_eq_some_iff.1 h3).1, fun j u hu => ?_, fun o => by simp [World.frozen?, h3], fun o u hu => ?_⟩
    · rw [cell_of_row _ _ _ _ _ _ h3]
      have hj : j < n * sz := by rw [← h.len]; exact (List.getElem?_eq_some_iff.1 hu).1
      rw [← h5, List.getElem?_take, if_pos hj] at hu
      simpa using hu
    · rw [cell_of_row _ _ _ _ _ _ h3] at hu
      exact h6 u (by have := Array.mem_of_getElem? hu; simpa using this)
theorem setIf_take {α : Type} (l : List α) (m j : Nat) (u : α) : (l.set j u).take m = (l.take m).set j u := by
  apply List.ext_getElem?
  intro i
  rw [List.getElem?_take, List.getElem?_set, List.getElem?_set, List.getElem?_take]
  by_cases h1 : i < m
  · rw [if_pos h1]
    by_cases h2 : j = i
    · rw [if_pos h2, if_pos h2]
      have e : (l.take m).length = min m l.length := List.length_take
      by_cases h3 : i < l.length
      · rw [if_pos (by omega), if_pos (by omega)]
      · rw [if_neg (by omega), if_neg (by omega)]
    · rw [if_neg h2, if_neg h2, if_pos h1]
  · rw [if_neg h1]
    by_cases h2 : j = i
    · rw [if_pos h2, if_neg (by rw [List.length_take]; omega)]
    · rw [if_neg h2, if_neg h1]
/-- A cell is set. -/
theorem TR.set {b : Nat} (h : TR W B e sz (some ⟨b, 0, none⟩) n k xs) (j : Nat) (u : Value) (hu : Dry u) : TR (W.setCell ⟨b, j, none⟩ u) B e sz (some ⟨b, 0, none⟩) n k (xs.set j u) := by
  refine ⟨by rw [List.length_set]; exact h.len, h.fit, ?_⟩
  rcases h.row with ⟨h1, _⟩ | ⟨b', h1, h2, cur, h3, h4, h5, h6⟩
  · cases h1
  · injection h1 with h1
    injection h1 with h1
    subst h1
    refine .inr ⟨b, rfl, h2, cur.setIfInBounds j u, ?_, by simpa using h4, ?_, fun x hx => ?_⟩
    · rw [setCell_eq_setRow _ _ _ _ _ _ _ h3, setRow_heap _ _ _ _ _ _ h3]
    · rw [Array.toList_setIfInBounds, setIf_take, h5]
    · rw [Array.toList_setIfInBounds] at hx
      rcases List.mem_or_eq_of_mem_set hx with hx | hx
      · exact h6 x hx
      · rw [hx]; exact hu
/-- What the element type must be. -/
structure Elem (e t : TypeId) (sz by_ : Nat) (z : Value) : Prop where
  und : Tryz.prog.underlying t = some (.slice e)
  info : (Tryz.prog.info? e).map (fun i => (i.zero, i.size, i.bytes)) = some (some z, sz, by_)
  cells : z.cells.size = sz
  dry : ∀ u ∈ z.cells.toList, Dry u
  small : by_ ≤ 64
theorem zeros_dry {z : Array Value} (h : ∀ u ∈ z.toList, Dry u) (m : Nat) : ∀ u ∈ (Builtin.zeroCells z m).toList, Dry u := by
  intro u hu
  unfold Builtin.zeroCells at hu
  rw [Array.toList_map, List.mem_map] at hu
  obtain ⟨i, hi, rfl⟩ := hu
  have hi2 : i < m * z.size := by
    rw [Array.toList_range] at hi
    exact List.mem_range.1 hi
  have hz : 0 < z.size := by
    by_cases h0 : z.size = 0
    · rw [h0] at hi2; omega
    · omega
  have hlt : i % z.size < z.size := Nat.mod_lt _ hz
  refine h _ ?_
  rw [getElem!_pos z (i % z.size) hlt]
  exact Array.mem_toList_iff.2 (Array.getElem_mem hlt)
/-- One element more. -/
theorem TR.append {t : TypeId} {by_ : Nat} {z : Value} (h : TR W B e sz A n k xs) (he : Elem e t sz by_ z) (hs : 0 < sz) (hB : B ≤ W.heap.size) (hn : n ≤ 100000) (a : Addr) (news : List Value) (hl : news.length = sz) (h1 : ∀ u ∈ news, u.oneCell' = true) (hd : ∀ u ∈ news, Dry u) (hx : ∀ j u, news[j]? = some u → W.cell? (a.add j) = some u) (ty : TypeId) :
    ∃ A' k' w', (Builtin.append_ #[t, t] ty #[.slice A n k, .slice (some a) 1 1]).run Tryz.prog W = .ok (.slice A' (n + 1) k') w' ∧ TR w' B e sz A' (n + 1) k' (xs ++ news) ∧ W.grownBy w' (Value.slice A n k).ownBlock := by
  obtain ⟨i0, hi0, hz0, hz1, hz2⟩ := info_parts he.info
  have hsm := he.small
  have hlen : (xs ++ news).length = (n + 1) * sz := by rw [List.length_append, h.len, hl, Nat.add_mul, Nat.one_mul]
  rcases h.row with ⟨rfl, rfl⟩ | ⟨b, rfl, hBb, cur, h3, h4, h5, h6⟩
  · have hn0 : n = 0 := by have := h.fit.1; omega
    subst hn0
    have hx0 : xs = [] := List.eq_nil_of_length_eq_zero (by rw [h.len]; simp)
    subst hx0
    have hr := run_append_nil (P := Tryz.prog) W t ty e i0 z he.und hi0 hz0 a 1 1 news (by rw [hz1, hl]; omega) hx (by omega) (by omega) (by rw [hz2]; omega)
    refine ⟨_, _, _, hr, ⟨hlen, ⟨?_, ?_⟩, .inr ⟨_, rfl, hB, _, heap_alloc_new W.drew _, ?_, ?_, ?_⟩⟩, ⟨rfl, rfl, rfl, by simp, fun q hq _ => heap_alloc_old W.drew _ hq⟩⟩
    · have := grownCap_ge W 1 0 e
      simpa using this
    · exact grownCap_le_maxLen W _ _ _ (by unfold maxLen; omega)
    · have := grownCap_ge W 1 0 e
      simp only [Array.size_append, List.size_toArray, size_zeroCells, hl, he.cells]
      obtain ⟨G, hG⟩ : ∃ G, grownCap W 1 0 e = G + 1 := ⟨grownCap W 1 0 e - 1, by omega⟩
      rw [hG, Nat.succ_mul, Nat.add_sub_cancel]
      exact Nat.add_comm _ _
    · simp only [Array.toList_append]
      rw [List.nil_append]
      exact List.take_left' (by simp [hl])
    · intro u hu
      simp only [Array.toList_append, List.mem_append] at hu
      rcases hu with hu | hu
      · exact hd u hu
      · exact zeros_dry he.dry _ u hu
  · have hcl : cur.toList.length = k * sz := by simpa using h4
    have hfit := h.fit
    by_cases hroom : n + 1 ≤ k
    · have hr := run_append_room (P := Tryz.prog) W t ty e i0 he.und hi0 b n k cur h3 a 1 1 news (by rw [hz1, hl]; omega) hx h1 hroom (by rw [hz1, hl, h4, ← Nat.succ_mul]; exact Nat.mul_le_mul_right _ hroom)
      have hm : n * sz + sz ≤ k * sz := by rw [← Nat.succ_mul]; exact Nat.mul_le_mul_right _ hroom
      refine ⟨_, _, _, hr, ⟨hlen, ⟨hroom, hfit.2⟩, .inr ⟨b, rfl, hBb, _, setRow_heap W b cur _ _ _ h3, ?_, ?_, ?_⟩⟩, ⟨rfl, rfl, rfl, by simp, fun q hq hk => setRow_other W b q _ (fun e => hk (by rw [e]; rfl))⟩⟩
      · simp only [hz1, hl, List.size_toArray, List.length_append, List.length_take, List.length_drop, hcl]
        omega
      · rw [hz1, hl, h5]
        exact List.take_left' (by rw [hlen])
      · intro u hu
        simp only [hz1, hl, List.mem_append] at hu
        rcases hu with (hu | hu) | hu
        · exact h6 u (List.mem_of_mem_take hu)
        · exact hd u hu
        · exact h6 u (List.mem_of_mem_drop hu)
    · have hholds : ∀ j v, xs[j]? = some v → W.cell? ((⟨b, 0, none⟩ : Addr).add j) = some v := fun j v hv => by
        rw [add_plain, Nat.zero_add, cell_of_row _ _ _ _ _ _ h3]
        have hj : j < n * sz := by rw [← h.len]; exact (List.getElem?_eq_some_iff.1 hv).1
        rw [← h5, List.getElem?_take, if_pos hj] at hv
        simpa using hv
      have hr := run_append_grow (P := Tryz.prog) W t ty e i0 z he.und hi0 hz0 ⟨b, 0, none⟩ n k xs (by rw [hz1, h.len]) hholds a 1 1 news (by rw [hz1, hl]; omega) hx (by omega) (by omega) (growslice_fits (by omega) (by rw [hz2]; have : (n + 1) * by_ ≤ 100001 * 64 := Nat.mul_le_mul (by omega) hsm; omega))
      refine ⟨_, _, _, hr, ⟨hlen, ⟨?_, ?_⟩, .inr ⟨_, rfl, hB, _, heap_alloc_new W.drew _, ?_, ?_, ?_⟩⟩, ⟨rfl, rfl, rfl, by simp, fun q hq _ => heap_alloc_old W.drew _ hq⟩⟩
      · exact grownCap_ge W (n + 1) k e
      · exact grownCap_le_maxLen W _ _ _ (by unfold maxLen; omega)
      · have := grownCap_ge W (n + 1) k e
        simp only [Array.size_append, List.size_toArray, size_zeroCells, hl, he.cells, h.len]
        obtain ⟨G, hG⟩ : ∃ G, grownCap W (n + 1) k e = G + (n + 1) := ⟨grownCap W (n + 1) k e - (n + 1), by omega⟩
        rw [hG, Nat.add_sub_cancel, Nat.add_mul, Nat.add_mul n 1, Nat.one_mul]
        exact Nat.add_comm _ _
      · simp only [Array.toList_append, List.append_assoc]
        rw [← List.append_assoc]
        exact List.take_left' (by rw [hlen])
      · intro u hu
        simp only [Array.toList_append, List.mem_append] at hu
        rcases hu with (hu | hu) | hu
        · have : u ∈ cur.toList := by rw [← h5] at hu; exact List.mem_of_mem_take hu
          exact h6 u this
        · exact hd u hu
        · exact zeros_dry he.dry _ u hu
end
section
variable {w0 W W' : World} {vs : List (Nat × Vr)} {b : Nat}
/-- In the block b lies nothing that a variable's things are made of. -/
theorem VT.dry {ty : TypeId} {cur : Array Value} {fz : Nat × Nat} (h : VT w0 W vs) (hb : W.heap[b]? = some (.cells cur ty fz)) (ht : ty ≠ 27 ∧ ty ≠ 49) (hd : ∀ u ∈ cur.toList, Dry u) (hw : w0.heap.size ≤ b) (hg : W.grownBy W' (some b)) : VT w0 W' vs := by
  have hcell : ∀ o u, W.cell? ⟨b, o, none⟩ = some u → Dry u := fun o u hu => by
    rw [cell_of_row _ _ _ _ _ _ hb] at hu
    exact hd u (by have := Array.mem_of_getElem? hu; simpa using this)
  have hblk : ∀ q, q < W.heap.size → q ≠ b → W'.heap[q]? = W.heap[q]? := fun q hq hne => hg.block q hq (fun e => hne (Option.some.inj e))
  have hBS : ∀ {A : Option Addr} {n : Nat} {l : List UInt8}, BS W A n l → BS W' A n l := fun h => ⟨h.1, fun hn => by
    obtain ⟨c, o, e, hc⟩ := h.2 hn
    have hcb : c ≠ b := by
      rintro rfl
      exact (hcell _ _ (hc 0 (by rw [h.1]; exact hn))).1 _ rfl
    exact ⟨c, o, e, fun j hj => (World.cell?_of_block (hblk c (World.block_lt_of_cell? W _ (hc j hj)) hcb)).trans (hc j hj)⟩⟩
  have hbl := h.bel
  refine ⟨⟨hg.os.trans hbl.os, hg.tape.trans hbl.tape, hg.output.trans hbl.output, Nat.le_trans hbl.size hg.size, fun q hq => (hblk q (Nat.lt_of_lt_of_le hq hbl.size) (by omega)).trans (hbl.block q hq)⟩, fun i g v hi => ?_, h.dis⟩
  obtain ⟨h1, h2, h3⟩ := h.var i g v hi
  have hne : g ≠ b := by
    rintro rfl
    unfold Bw at h2
    rw [hb] at h2
    injection h2 with h2
    injection h2 with _ h2
    cases v with
    | th A k t => exact ht.1 h2
    | rp B n d C m f r => exact ht.2 h2
  refine ⟨h1, (hblk g h2.lt hne).trans h2, ?_⟩
  cases v with
  | th A k t =>
    have h3' : TM W A k t := h3
    refine (⟨⟨h3'.ss.1, fun hn => ?_⟩, h3'.cap⟩ : TM W' A k t)
    obtain ⟨c, o, e, hc⟩ := h3'.ss.2 hn
    have h0 : 0 < ((List.range 24).map t.s).length := by rw [h3'.ss.1]; exact hn
    have hcb : c ≠ b := by
      rintro rfl
      obtain ⟨y, h1, _⟩ := hc 0 h0
      exact (hcell _ _ (h1 5 _ rfl)).2 _ rfl
    refine ⟨c, o, e, fun q hl => ?_⟩
    obtain ⟨y, h1, h2, h3⟩ := hc q hl
    exact ⟨y, fun j u hu => (World.cell?_of_block (hblk c (World.block_lt_of_cell? W _ (h1 j u hu)) hcb)).trans (h1 j u hu), hBS h2, h3⟩
  | rp B n d C m f r =>
    have h3' : RM W B n d C m f r := h3
    refine (⟨hBS h3'.data, ⟨h3'.ents.1, fun hn => ?_⟩, h3'.few⟩ : RM W' B n d C m f r)
    obtain ⟨c, o, e, hc⟩ := h3'.ents.2 hn
    have h0 : 0 < r.es.length := by rw [h3'.ents.1]; exact hn
    have hcb : c ≠ b := by
      rintro rfl
      exact (hcell _ _ (hc 0 h0 0 _ rfl)).2 _ rfl
    exact ⟨c, o, e, fun j hj i v hv => (World.cell?_of_block (hblk c (World.block_lt_of_cell? W _ (hc j hj i v hv)) hcb)).trans (hc j hj i v hv)⟩
/-- A row is written, or gets a new block: the variables stay. -/
theorem VT.grown {B : Nat} {e : TypeId} {sz : Nat} {A : Option Addr} {n k : Nat} {xs : List Value} (h : VT w0 W vs) (hr : TR W B e sz A n k xs) (hB : w0.heap.size ≤ B) (ht : e ≠ 27 ∧ e ≠ 49) (hg : W.grownBy W' (Value.slice A n k).ownBlock) : VT w0 W' vs := by
  rcases hr.row with ⟨rfl, rfl⟩ | ⟨b, rfl, h2, cur, h3, h4, h5, h6⟩
  · exact h.below ⟨hg.os, hg.tape, hg.output, hg.size, fun q hq => hg.block q hq (by simp [Value.ownBlock])⟩
  · exact h.dry h3 ht h6 (by omega) hg
/-- Another row stays, of another type. -/
theorem TR.grown {B B' : Nat} {e e' : TypeId} {sz sz' : Nat} {A A' : Option Addr} {n n' k k' : Nat} {xs xs' : List Value} (h : TR W B e sz A n k xs) (hr : TR W B' e' sz' A' n' k' xs') (ht : e ≠ e') (hg : W.grownBy W' (Value.slice A' n' k').ownBlock) : TR W' B e sz A n k xs := by
  refine h.block fun b hb hl => hg.block b hl ?_
  intro hh
  rcases hr.row with ⟨rfl, rfl⟩ | ⟨b', rfl, h2, cur, h3, _⟩
  · cases hh
  · have e1 : b = b' := by simpa [Value.ownBlock] using hh
    subst e1
    rcases h.row with ⟨h1, _⟩ | ⟨b2, h1, _, cur2, h4, _⟩
    · rw [h1] at hb; cases hb
    · rw [h1] at hb
      injection hb with hb
      injection hb with hb
      subst hb
      rw [h3] at h4
      injection h4 with h4
      injection h4 with _ h4
      exact ht h4.symm
end
theorem dry_u32 (z : Int) : Dry (.int .u32 z) := ⟨(fun _ h => by cases h), (fun _ h => by cases h)⟩
theorem dry_i64 (z : Int) : Dry (.int .i64 z) := ⟨(fun _ h => by cases h), (fun _ h => by cases h)⟩
theorem dry_str (s : ByteArray) : Dry (.string s) := ⟨(fun _ h => by cases h), (fun _ h => by cases h)⟩
theorem dry_bool (s : Bool) : Dry (.bool s) := ⟨(fun _ h => by cases h), (fun _ h => by cases h)⟩
theorem elem_H : Elem 35 36 2 8 (.agg (hc 0 0).toArray) := ⟨Tryz.underlying36, by kernel_rfl, by kernel_rfl, fun u hu => by
  simp [hc, Value.cells] at hu
  rcases hu with rfl | rfl <;> exact dry_u32 _, by omega⟩
theorem elem_S : Elem 9 85 1 16 (.string ⟨#[]⟩) := ⟨Tryz.underlying85, by kernel_rfl, by kernel_rfl, fun u hu => by
  simp [Value.cells] at hu
  rw [hu]; exact dry_str _, by omega⟩
theorem elem_B : Elem 4 68 1 1 (.bool false) := ⟨Tryz.underlying68, by kernel_rfl, by kernel_rfl, fun u hu => by
  simp [Value.cells] at hu
  rw [hu]; exact dry_bool _, by omega⟩
/-- append, a step of a walk. -/
theorem wpList_app {W : World} {B : Nat} {e t : TypeId} {sz by_ : Nat} {z : Value} {A : Option Addr} {n k : Nat} {xs : List Value} {ops : Array Oper} {rest : List Oper} {o : Oper} {a : Act} {Q : Exit → Act → World → Prop} (hgd : o.guard = none) (s x : Operand)
    (ho : o.op = .call { callee := .builtin .append, args := #[s, x], argTypes := #[t, t] }) (hs : a.eval s = .slice A n k) (ad : Addr) (hx : a.eval x = .slice (some ad) 1 1) (h : TR W B e sz A n k xs) (he : Elem e t sz by_ z) (h0 : 0 < sz) (hB : B ≤ W.heap.size) (hn : n ≤ 100000)
    (news : List Value) (hl : news.length = sz) (h1 : ∀ u ∈ news, u.oneCell' = true) (hd : ∀ u ∈ news, Dry u) (hnw : ∀ j u, news[j]? = some u → W.cell? (ad.add j) = some u)
    (hk : ∀ A' k' w', TR w' B e sz A' (n + 1) k' (xs ++ news) → W.grownBy w' (Value.slice A n k).ownBlock → wpList Tryz.prog ops Q rest (a.put o.dst (.slice A' (n + 1) k')) w') : wpList Tryz.prog ops Q (o :: rest) a W := by
  obtain ⟨A', k', w', hr, h2, h3⟩ := h.append he h0 hB hn ad news hl h1 hd hnw o.type
  exact wpList_append_run hgd s x t ho _ _ _ hs hx hr (hk A' k' w' h2 h3)
end Go.Proofs.YtpbpdnjlomhkdaaGreat
