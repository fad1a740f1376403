/-
  Rows of pointers to slots that grow: in their blocks lies no string (layer 13).
-/
import Derived.Test.YtpbpdnjlomhkdaaGreatOBelow
import Derived.Test.YtpbpdnjlomhkdaaGreatOEdit
namespace Go.Proofs.YtpbpdnjlomhkdaaGreat
open Go.RowKit Go.Shelf

/-- A row of pointers in the block b (room for k), in which no string lies. -/
structure PR (w : World) (base g b k : Nat) (L : List Nat) : Prop where
  row : ∃ cur : Array Value, w.heap[b]? = some (.cells cur 149 (0, 0)) ∧ cur.size = k ∧ cur.toList.take L.length = pts g L ∧ ∀ u ∈ cur.toList, ∀ s, u ≠ .string s
  fit : L.length ≤ k ∧ k ≤ maxLen
  base : base ≤ b
section
variable {w w' : World} {base g b k : Nat} {L : List Nat}
theorem PR.one (w : World) (g i : Nat) : PR (w.alloc (.cells #[.pointer (some ⟨g, i * 9, none⟩)] 149)) w.heap.size g w.heap.size 1 [i] :=
  ⟨⟨_, heap_alloc_new w _, rfl, rfl, fun u hu s => by simp at hu; rw [hu]; intro h; cases h⟩, ⟨Nat.le_refl _, by unfold maxLen; omega⟩, Nat.le_refl _⟩
theorem PR.three (w : World) (g i j a : Nat) : PR (w.alloc (.cells #[.pointer (some ⟨g, i * 9, none⟩), .pointer (some ⟨g, j * 9, none⟩), .pointer (some ⟨g, a * 9, none⟩)] 149)) w.heap.size g w.heap.size 3 [i, j, a] :=
  ⟨⟨_, heap_alloc_new w _, rfl, rfl, fun u hu s => by simp at hu; rcases hu with h | h | h <;> (rw [h]; intro h; cases h)⟩, ⟨Nat.le_refl _, by unfold maxLen; omega⟩, Nat.le_refl _⟩
theorem PR.ptrs (h : PR w base g b k L) : PtrS w g b L := by
  obtain ⟨cur, hg, hs, ht, _⟩ := h.row
  intro j hj
  rw [cell_of_row _ _ _ _ _ _ hg]
  have h1 : (pts g L)[j]? = some (.pointer (some ⟨g, L[j] * 9, none⟩)) := by simp [pts, hj]
  rw [← ht, List.getElem?_take, if_pos hj] at h1
  simpa using h1
theorem PR.lt (h : PR w base g b k L) : b < w.heap.size := by
  obtain ⟨cur, hg, _⟩ := h.row
  exact (Array.getElem?_eq_some_iff.1 hg).1
theorem PR.nostr (h : PR w base g b k L) : ∀ o s, w.cell? ⟨b, o, none⟩ ≠ some (.string s) := by
  obtain ⟨cur, hg, hs, ht, hn⟩ := h.row
  intro o s
  rw [cell_of_row _ _ _ _ _ _ hg]
  intro h
  exact hn _ (by have := Array.mem_of_getElem? h; simpa using this) s rfl
theorem PR.block (h : PR w base g b k L) (hb : w'.heap[b]? = w.heap[b]?) : PR w' base g b k L := by
  obtain ⟨cur, hg, hr⟩ := h.row
  exact ⟨⟨cur, hb.trans hg, hr⟩, h.fit, h.base⟩
theorem PR.below (h : PR w base g b k L) (hb : Below w.heap.size w w') : PR w' base g b k L := h.block (hb.block b h.lt)
theorem PR.pg {p : Nat} (h : PR w base g b k L) (hp : PG p g w w') (hb : b ≠ p ∧ b ≠ g) : PR w' base g b k L := h.block (hp.block b h.lt hb.1 hb.2)
theorem zeros_ptr (n : Nat) : ∀ u ∈ (Builtin.zeroCells #[Value.pointer none] n).toList, ∀ s, u ≠ .string s := by
  intro u hu s
  unfold Builtin.zeroCells at hu
  simp [Nat.mod_one] at hu
  rw [← hu.2]
  intro h
  cases h
theorem PR.append {i : Nat} (h : PR w base g b k L) (hbase : base ≤ w.heap.size) (hL : L.length ≤ 100) (a : Addr) (hx : w.cell? a = some (.pointer (some ⟨g, i * 9, none⟩))) (ty : TypeId) :
    ∃ b' k' w', (Builtin.append_ #[161, 161] ty #[.slice (some ⟨b, 0, none⟩) L.length k, .slice (some a) 1 1]).run Tryz.prog w = .ok (.slice (some ⟨b', 0, none⟩) (L.length + 1) k') w' ∧ PR w' base g b' k' (L ++ [i]) ∧ w.grownBy w' (some b) ∧ (k = L.length → Below w.heap.size w w') := by
  obtain ⟨i0, hi0, hz0, hz1, hz2⟩ := info_parts infos_P
  obtain ⟨cur, hg, hs, ht, hn⟩ := h.row
  have hnews : ∀ j u, [Value.pointer (some ⟨g, i * 9, none⟩)][j]? = some u → w.cell? (a.add j) = some u := fun j u hu => by
    match j, hu with
    | 0, hu => rw [show a.add 0 = a from by cases a; simp [Addr.add]]; rw [hx]; exact hu
    | j + 1, hu => simp at hu
  by_cases hroom : L.length + 1 ≤ k
  · have hr := run_append_room (P := Tryz.prog) w 161 ty 149 i0 Tryz.underlying161 hi0 b L.length k cur hg a 1 1 [.pointer (some ⟨g, i * 9, none⟩)] (by rw [hz1]; rfl) hnews (fun u hu => by obtain rfl := List.mem_singleton.1 hu; rfl) hroom (by rw [hz1, hs]; simpa using hroom)
    refine ⟨b, k, _, hr, ⟨⟨_, setRow_heap w b cur _ _ _ hg, ?_, ?_, ?_⟩, ⟨by simpa using hroom, h.fit.2⟩, h.base⟩, ⟨rfl, rfl, rfl, by simp, fun q hq hk => setRow_other w b q _ (fun e => hk (by rw [e]))⟩, fun hk => by omega⟩
    · simp only [hz1, Nat.mul_one, List.size_toArray, List.length_append, List.length_take, List.length_drop, Array.length_toList, List.length_singleton]
      omega
    · rw [hz1, Nat.mul_one, ht, pts_snoc]
      exact List.take_left' (by simp [pts_len])
    · intro u hu s
      rw [hz1, Nat.mul_one] at hu
      simp only [List.mem_append] at hu
      rcases hu with (hu | hu) | hu
      · exact hn u (List.mem_of_mem_take hu) s
      · obtain rfl := List.mem_singleton.1 hu
        intro h; cases h
      · exact hn u (List.mem_of_mem_drop hu) s
  · have hr := run_append_grow (P := Tryz.prog) w 161 ty 149 i0 _ Tryz.underlying161 hi0 hz0 ⟨b, 0, none⟩ L.length k (pts g L) (by rw [hz1, pts_len]; omega) (fun j v hv => by
        have hj : j < L.length := by have := (List.getElem?_eq_some_iff.1 hv).1; rwa [pts_len] at this
        rw [add_plain, Nat.zero_add]
        have := h.ptrs j hj
        rw [this, ← hv]
        simp [pts, hj]) a 1 1 [.pointer (some ⟨g, i * 9, none⟩)] (by rw [hz1]; rfl) hnews (by omega) (by omega) (growslice_fits (by omega) (by rw [hz2]; omega))
    refine ⟨_, _, _, hr, ⟨⟨_, heap_alloc_new w.drew _, ?_, ?_, ?_⟩, ⟨?_, ?_⟩, hbase⟩, ⟨rfl, rfl, rfl, by simp, fun q hq _ => heap_alloc_old w.drew _ hq⟩, fun _ => ((Below.refl _ w).drew).alloc (Nat.le_refl _) _⟩
    · have := grownCap_ge w (L.length + 1) k 149
      simp only [Array.size_append, List.size_toArray, size_zeroCells, pts_len]
      show _ + _ + _ * 1 = _
      simp
      omega
    · simp only [Array.toList_append, List.append_assoc]
      rw [← List.append_assoc, pts_snoc]
      exact List.take_left' (by simp [pts_len])
    · intro u hu s
      simp only [Array.toList_append, List.mem_append] at hu
      rcases hu with (hu | hu) | hu
      · simp [pts] at hu
        obtain ⟨x, _, rfl⟩ := hu
        intro h; cases h
      · obtain rfl := List.mem_singleton.1 (by simpa using hu)
        intro h; cases h
      · exact zeros_ptr _ u hu s
    · have := grownCap_ge w (L.length + 1) k 149
      simpa using this
    · exact grownCap_le_maxLen w _ k _ (by unfold maxLen; omega)
end
theorem ES.offS {w w' : World} {A : Option Addr} {n : Nat} {es : List En} {g : Nat} (h : ES w A n es) (hq : ∀ o s, w.cell? ⟨g, o, none⟩ ≠ some (.string s)) (hk : ∀ j, j < w.heap.size → j ≠ g → w'.heap[j]? = w.heap[j]?) : ES w' A n es := by
  refine ⟨h.1, fun hn => ?_⟩
  obtain ⟨b, o, e, hc⟩ := h.2 hn
  refine ⟨b, o, e, fun j hj i v hv => ?_⟩
  have hb : b ≠ g := by
    rintro rfl
    exact hq _ _ (hc j hj 3 _ rfl)
  exact (World.cell?_of_block (hk b (World.block_lt_of_cell? w _ (hc j hj i v hv)) hb)).trans (hc j hj i v hv)
/-- append, where it is known what it does. -/
theorem wpList_append_run {P : Program} {w w' : World} {ops : Array Oper} {rest : List Oper} {o : Oper} {a : Act} {Q : Exit → Act → World → Prop} (hgd : o.guard = none) (s x : Operand) (t : TypeId)
    (ho : o.op = .call { callee := .builtin .append, args := #[s, x], argTypes := #[t, t] }) (u v v' : Value) (hs : a.eval s = u) (hx : a.eval x = v) (hr : (Builtin.append_ #[t, t] o.type #[u, v]).run P w = .ok v' w') (h : wpList P ops Q rest (a.put o.dst v') w') : wpList P ops Q (o :: rest) a w := by
  refine wpList_plain hgd fun K hK => ?_
  unfold Oper.wp execOp
  simp only [ho, resolve, invoke, builtin, Sem.run_bind, Sem.run_pure, Result.andThen_ok, List.map_toArray, List.map_cons, List.map_nil, hs, hx, hr]
  exact hK _ _ h
end Go.Proofs.YtpbpdnjlomhkdaaGreat
