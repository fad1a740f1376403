
/-
  Entries in memory: slices that read as entries, blocks that hold one (layer 8).
-/
import Derived.Test.YtjionpkflpnejaaEMath
import Derived.Test.YtjionpkflpnejaaRefR
import Derived.Test.YtjionpkflpnejaaDMem
import Derived.IntWalk
namespace Go.Proofs.Ytjionpkflpnejaa
open Go.RowKit

/-- The cells of an entry, .. -/
def ec (e : En) : List Value := [.int .u64 (e.ck : Int), .int .u32 (e.ino : Int), .int .u32 (e.gen : Int), .string (txt e.nm)]
/-- .. of all of them. -/
def ecs (es : List En) : List Value := es.flatMap ec
theorem ec_length (e : En) : (ec e).length = 4 := rfl
theorem ec_size (e : En) : (ec e).toArray.size = 4 := rfl
theorem ec_one (e : En) : (ec e).toArray.all (·.oneCell') = true := by simp [ec, Value.oneCell']
theorem ec_one' (e : En) : ∀ u ∈ ec e, u.oneCell' = true := by
  intro u hu
  simp only [ec, List.mem_cons, List.not_mem_nil, or_false] at hu
  rcases hu with rfl | rfl | rfl | rfl <;> rfl
theorem ecs_length (es : List En) : (ecs es).length = es.length * 4 := by
  induction es with
  | nil => rfl
  | cons e r ih => show (ec e ++ ecs r).length = _; rw [List.length_append, ih, ec_length, List.length_cons]; omega
theorem ecs_append (a b : List En) : ecs (a ++ b) = ecs a ++ ecs b := by simp [ecs]
theorem ecs_single (e : En) : ecs [e] = ec e := by simp [ecs]
theorem ecs_one (es : List En) : ∀ u ∈ ecs es, u.oneCell' = true := by
  intro u hu
  unfold ecs at hu
  obtain ⟨e, _, h⟩ := List.mem_flatMap.1 hu
  exact ec_one' e u h
theorem ecs_get (es : List En) : ∀ (j : Nat) (hj : j < es.length) (i : Nat) (v : Value), (ec es[j])[i]? = some v → (ecs es)[j * 4 + i]? = some v := by
  induction es with
  | nil => intro j hj; exact absurd hj (Nat.not_lt_zero _)
  | cons e r ih =>
    intro j hj i v hv
    show (ec e ++ ecs r)[j * 4 + i]? = _
    cases j with
    | zero =>
      have hv' : (ec e)[i]? = some v := hv
      have hi := (List.getElem?_eq_some_iff.1 hv').1
      rw [Nat.zero_mul, Nat.zero_add, List.getElem?_append_left hi]
      exact hv'
    | succ j =>
      rw [List.getElem?_append_right (by rw [ec_length]; omega), ec_length, show (j + 1) * 4 + i - 4 = j * 4 + i by omega]
      exact ih j (by simpa using hj) i v hv
/-- The slice (A, n, ..) reads as the entries es. -/
def ES (w : World) (A : Option Addr) (n : Nat) (es : List En) : Prop :=
  es.length = n ∧ (0 < n → ∃ b o, A = some ⟨b, o, none⟩ ∧ ∀ j (hj : j < es.length) i v, (ec es[j])[i]? = some v → w.cell? ⟨b, o + j * 4 + i, none⟩ = some v)
section
variable {w w' : World} {A : Option Addr} {n : Nat} {es : List En}
theorem ES.nil : ES w A 0 [] := ⟨rfl, fun h => absurd h (by omega)⟩
theorem ES.keep (h : ES w A n es) (hk : ∀ p : Addr, p.block < w.heap.size → w'.cell? p = w.cell? p) : ES w' A n es :=
  ⟨h.1, fun hn => by
    obtain ⟨b, o, e, hc⟩ := h.2 hn
    exact ⟨b, o, e, fun j hj i v hv => (hk _ (World.block_lt_of_cell? w _ (hc j hj i v hv))).trans (hc j hj i v hv)⟩⟩
theorem ES.below (h : ES w A n es) (hb : Below w.heap.size w w') : ES w' A n es := h.keep fun _ hp => hb.cell hp
theorem ES.alloc (h : ES w A n es) (o : Obj) : ES (w.alloc o) A n es := h.keep fun p hp => World.cell?_alloc_lt w o p hp
theorem ES.drew (h : ES w A n es) : ES w.drew A n es := h
theorem ES.drewN (h : ES w A n es) (k : Nat) : ES (w.drewN k) A n es := h
theorem ES.at (h : ES w A n es) {k : Nat} (hk : k < n) : ∃ b o, A = some ⟨b, o, none⟩ ∧ b < w.heap.size ∧ ∃ hj : k < es.length, ∀ i v, (ec es[k])[i]? = some v → w.cell? ⟨b, o + k * 4 + i, none⟩ = some v := by
  obtain ⟨b, o, e, hc⟩ := h.2 (by omega)
  have hj : k < es.length := by rw [h.1]; exact hk
  exact ⟨b, o, e, World.block_lt_of_cell? w _ (hc k hj 0 _ rfl), hj, hc k hj⟩
theorem ES.lt_block (h : ES w A n es) (hn : 0 < n) (ad : Addr) (ha : A = some ad) : ad.block < w.heap.size := by
  obtain ⟨b, o, e, hb, _⟩ := h.at hn
  rw [ha] at e
  injection e with e
  subst e
  exact hb
theorem ES.take (h : ES w A n es) {k : Nat} (hk : k ≤ n) : ES w A k (es.take k) :=
  ⟨by rw [List.length_take, h.1]; omega, fun hn => by
    obtain ⟨b, o, e, hc⟩ := h.2 (by omega)
    refine ⟨b, o, e, fun j hj i v hv => ?_⟩
    have hjl : j < es.length := by rw [List.length_take] at hj; omega
    rw [List.getElem_take] at hv
    exact hc j hjl i v hv⟩
theorem ES.drop (h : ES w A n es) {k c : Nat} (hk : k ≤ n) (hc : n ≤ c) : ES w (if c = k then A else A.map (·.add (k * 4))) (n - k) (es.drop k) :=
  ⟨by rw [List.length_drop, h.1], fun hn => by
    obtain ⟨b, o, rfl, hcell⟩ := h.2 (by omega)
    rw [if_neg (by omega)]
    refine ⟨b, o + k * 4, ?_, fun j hj i v hv => ?_⟩
    · simp only [Option.map_some]
      unfold Addr.add
      split
      · simp_all
      · rfl
    · rw [List.length_drop] at hj
      rw [List.getElem_drop] at hv
      rw [show o + k * 4 + j * 4 + i = o + (k + j) * 4 + i by omega]
      exact hcell (k + j) (by omega) i v hv⟩
theorem ES.of_own {base : Nat} {t : TypeId} {c : Nat} (h : w.ownsRow base t 4 (.slice A n c) n (ecs es)) : ES w A n es := by
  have hl : es.length = n := by have := h.1; rw [ecs_length] at this; omega
  refine ⟨hl, fun hn => ?_⟩
  obtain ⟨g, cap, hv, _, hlt⟩ := h.form hn
  injection hv with hA _ _
  subst hA
  refine ⟨g, 0, rfl, fun j hj i v hv => ?_⟩
  have := h.cells (g := g) rfl (j * 4 + i) _ (ecs_get es j hj i v hv)
  rw [add_plain] at this
  rw [Nat.add_assoc]
  exact this
/-- The cells of one, as a load asks for them. -/
theorem ES.load (h : ES w A n es) {k : Nat} (hk : k < n) : ∃ b o, A = some ⟨b, o, none⟩ ∧ b < w.heap.size ∧ ∃ hj : k < es.length, ∀ j u, (ec es[k])[j]? = some u → w.cell? ((⟨b, o + k * 4, none⟩ : Addr).add j) = some u := by
  obtain ⟨b, o, e, hb, hj, hc⟩ := h.at hk
  exact ⟨b, o, e, hb, hj, fun j u hu => by rw [add_plain]; exact hc j u hu⟩
/-- All cells, as the laws on append ask for them. -/
theorem ecs_get_inv (es : List En) (q : Nat) (u : Value) (h : (ecs es)[q]? = some u) : ∃ j i, ∃ hj : j < es.length, q = j * 4 + i ∧ (ec es[j])[i]? = some u := by
  have hq := (List.getElem?_eq_some_iff.1 h).1
  rw [ecs_length] at hq
  have hj : q / 4 < es.length := by omega
  have hi : q % 4 < (ec es[q / 4]).length := by rw [ec_length]; omega
  have := ecs_get es (q / 4) hj (q % 4) _ (List.getElem?_eq_getElem hi)
  rw [show q / 4 * 4 + q % 4 = q by omega, h] at this
  injection this with this
  exact ⟨q / 4, q % 4, hj, by omega, by rw [List.getElem?_eq_getElem hi, this]⟩
theorem ES.news (h : ES w A n es) {ad : Addr} (hA : A = some ad) : ∀ j u, (ecs es)[j]? = some u → w.cell? (ad.add j) = some u := by
  intro q u hu
  obtain ⟨j, i, hj, rfl, hv⟩ := ecs_get_inv es q u hu
  obtain ⟨b, o, e, hc⟩ := h.2 (by rw [← h.1]; omega)
  rw [hA] at e
  injection e with e
  subst e
  rw [add_plain, ← Nat.add_assoc]
  exact hc j hj i u hv
end

/-- Block g holds one entry. -/
def EB (w : World) (g : Nat) (t : TypeId) (e : En) : Prop := w.heap[g]? = some (.cells (ec e).toArray t (0, 0))
section
variable {w w' : World} {g : Nat} {t : TypeId} {e : En}
theorem EB.cell (h : EB w g t e) (k : Nat) (v : Value) (hv : (ec e)[k]? = some v) : w.cell? ⟨g, k, none⟩ = some v := by
  rw [cell_of_row w g k _ _ _ h]
  simpa using hv
theorem EB.c0 (h : EB w g t e) : w.cell? ⟨g, 0, none⟩ = some (.int .u64 (e.ck : Int)) := h.cell 0 _ rfl
theorem EB.c1 (h : EB w g t e) : w.cell? ⟨g, 1, none⟩ = some (.int .u32 (e.ino : Int)) := h.cell 1 _ rfl
theorem EB.c2 (h : EB w g t e) : w.cell? ⟨g, 2, none⟩ = some (.int .u32 (e.gen : Int)) := h.cell 2 _ rfl
theorem EB.c3 (h : EB w g t e) : w.cell? ⟨g, 3, none⟩ = some (.string (txt e.nm)) := h.cell 3 _ rfl
theorem EB.froz (h : EB w g t e) (k : Nat) : w.frozen? ⟨g, k, none⟩ = false := by simp [World.frozen?, show w.heap[g]? = _ from h]
theorem EB.lt (h : EB w g t e) : g < w.heap.size := World.block_lt_of_cell? w _ h.c0
theorem EB.below {B : Nat} (h : EB w g t e) (hb : Below B w w') (hg : g < B) : EB w' g t e := (hb.block g hg).trans h
theorem EB.below' (h : EB w g t e) (hb : Below w.heap.size w w') : EB w' g t e := h.below hb h.lt
theorem EB.new (w : World) (t : TypeId) (e : En) : EB (w.alloc (.cells (ec e).toArray t)) w.heap.size t e := heap_alloc_new w _
theorem EB.es (h : EB w g t e) : ES w (some ⟨g, 0, none⟩) 1 [e] :=
  ⟨rfl, fun _ => ⟨g, 0, rfl, fun j hj i v hv => by
    obtain rfl : j = 0 := by simpa using hj
    rw [Nat.zero_mul, Nat.zero_add]
    try rw [Nat.zero_add]
    exact h.cell i v hv⟩⟩
end
end Go.Proofs.Ytjionpkflpnejaa
