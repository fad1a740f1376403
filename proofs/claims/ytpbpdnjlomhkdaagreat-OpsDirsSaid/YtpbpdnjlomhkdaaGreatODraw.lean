/-
  Two new variables made in a region that draws its order (layer 13).
-/
import Derived.Test.YtpbpdnjlomhkdaaGreatORow
import Derived.Test.YtpbpdnjlomhkdaaGreatOCatch
namespace Go.Proofs.YtpbpdnjlomhkdaaGreat
open Go.RowKit Go.Shelf

theorem alloc_wp {P : Program} {w : World} {a : Act} {o : Oper} {K : Act → World → Prop} {Q : Exit → Act → World → Prop} (ty : TypeId) (ho : o.op = .alloc ty) (z : Value) (hz : (P.info? ty).bind (·.zero) = some z)
    (h : ∀ w', w'.heap[w.heap.size]? = some (.cells z.cells ty (0, 0)) → w'.heap.size = w.heap.size + 1 → Below w.heap.size w w' → K (a.put o.dst (.pointer (some ⟨w.heap.size, 0, none⟩))) w') : o.wp P a w K Q :=
  (did_alloc ty ho z hz).wp (h _ (heap_alloc_new w _) (by simp) ((Below.refl _ _).alloc (Nat.le_refl _) _))
section
variable {w0 W0 W W1 W2 W' : World} {vs : List (Nat × Vr)} {g gt gr : Nat} {A : Option Addr} {k : Nat} {t : Op.TT} {B : Option Addr} {n d : Nat} {C : Option Addr} {m f : Nat} {r : Rp}
theorem zeroT_cell (hb : Bw W g (tc Op.zeroT (.slice none 0 0)) 27) {o : Nat} {u : Value} (h : W.cell? ⟨g, o, none⟩ = some u) : (o = 0 ∧ u = .slice none 0 0) ∨ (o = 1 ∧ u = .int .u64 0) ∨ (o = 2 ∧ u = .int .i64 0) := by
  rw [cell_of_row _ _ _ _ _ _ hb] at h
  have h : (tc Op.zeroT (.slice none 0 0))[o]? = some u := by simpa using h
  match o, h with
  | 0, h => exact .inl ⟨rfl, (Option.some.inj h).symm⟩
  | 1, h => exact .inr (.inl ⟨rfl, (Option.some.inj h).symm⟩)
  | 2, h => exact .inr (.inr ⟨rfl, (Option.some.inj h).symm⟩)
theorem BS.offZ {l : List UInt8} (hb : Bw W g (tc Op.zeroT (.slice none 0 0)) 27) (h : BS W A n l) (hk : Keep (· ≠ g) W W') : BS W' A n l :=
  h.off (fun o z hz => by rcases zeroT_cell hb hz with ⟨_, h⟩ | ⟨_, h⟩ | ⟨_, h⟩ <;> cases h) (fun k _ hne => hk.block k hne)
theorem TM.offZ (hb : Bw W g (tc Op.zeroT (.slice none 0 0)) 27) (h : TM W A k t) (hk : Keep (· ≠ g) W W') : TM W' A k t := by
  refine ⟨⟨h.ss.1, fun hn => ?_⟩, h.cap⟩
  obtain ⟨c, o, e, hc⟩ := h.ss.2 hn
  have h0 : 0 < ((List.range 24).map t.s).length := by rw [h.ss.1]; exact hn
  have hcb : c ≠ g := by
    rintro rfl
    obtain ⟨y, h1, _⟩ := hc 0 h0
    rcases zeroT_cell hb (h1 0 _ rfl) with ⟨_, h⟩ | ⟨_, h⟩ | ⟨_, h⟩ <;> cases h
  refine ⟨c, o, e, fun q hl => ?_⟩
  obtain ⟨y, h1, h2, h3⟩ := hc q hl
  exact ⟨y, fun j u hu => (World.cell?_of_block (hk.block c hcb)).trans (h1 j u hu), h2.offZ hb hk, h3⟩
theorem RM.offZ (hb : Bw W g (tc Op.zeroT (.slice Option.none 0 0)) 27) (h : RM W B n d C m f r) (hk : Keep (· ≠ g) W W') : RM W' B n d C m f r := by
  refine ⟨h.data.offZ hb hk, ⟨h.ents.1, fun hn => ?_⟩, h.few⟩
  obtain ⟨c, o, e, hc⟩ := h.ents.2 hn
  have h0 : 0 < r.es.length := by rw [h.ents.1]; exact hn
  have hcb : c ≠ g := by
    rintro rfl
    rcases zeroT_cell hb (hc 0 h0 3 _ rfl) with ⟨_, h⟩ | ⟨_, h⟩ | ⟨_, h⟩ <;> cases h
  exact ⟨c, o, e, fun j hj i v hv => (World.cell?_of_block (hk.block c hcb)).trans (hc j hj i v hv)⟩
/-- Two more variables, whatever order they were made in. -/
theorem VT.two (h : VT w0 W0 vs) (hb : Below W0.heap.size W0 W) (ht : W0.heap.size ≤ gt) (hr : W0.heap.size ≤ gr) (hne : gt ≠ gr) (hbt : Bw W gt (tc Op.zeroT (.slice none 0 0)) 27) (hbr : Bw W gr (rc Rp.zero (.slice none 0 0) (.slice none 0 0)) 49) (tm : TM W A k t) (rm : RM W B n d C m f r)
    (h1 : Bw W1 gt (tc t (.slice A 24 k)) 27) (k1 : Keep (· ≠ gt) W W1) (h2 : Bw W2 gr (rc r (.slice B n d) (.slice C m f)) 49) (k2 : Keep (· ≠ gr) W1 W2) :
    VT w0 W2 (vs ++ [(gt, .th A k t)] ++ [(gr, .rp B n d C m f r)]) ∧ Below W0.heap.size W0 W2 := by
  have hbr1 : Bw W1 gr (rc Rp.zero (.slice none 0 0) (.slice none 0 0)) 49 := hbr.keep k1 (fun e => hne e.symm)
  have tm2 : TM W2 A k t := TM.offV (v := .rp none 0 0 none 0 0 Rp.zero) hbr1 (tm.offZ hbt k1) k2
  have rm2 : RM W2 B n d C m f r := Vr.ok.offV (v := .rp B n d C m f r) (u := .rp none 0 0 none 0 0 Rp.zero) hbr1 (rm.offZ hbt k1) k2
  have hbt2 : Bw W2 gt (tc t (.slice A 24 k)) 27 := h1.keep k2 hne
  have hbel : Below W0.heap.size W0 W2 := (hb.trans (k1.below2 (fun q hq => by omega))).trans (k2.below2 (fun q hq => by omega))
  refine ⟨?_, hbel⟩
  have hv := h.below hbel
  have hlt : ∀ (i q : Nat) (u : Vr), vs[i]? = some (q, u) → q < W0.heap.size := fun i q u hi => (h.var i q u hi).2.1.lt
  have hat : ∀ (i q : Nat) (u : Vr), (vs ++ [(gt, .th A k t)] ++ [(gr, .rp B n d C m f r)])[i]? = some (q, u) → vs[i]? = some (q, u) ∨ (i = vs.length ∧ q = gt ∧ u = .th A k t) ∨ (i = vs.length + 1 ∧ q = gr ∧ u = .rp B n d C m f r) := fun i q u hi => by
    rw [List.append_assoc] at hi
    by_cases e : i < vs.length
    · rw [List.getElem?_append_left e] at hi
      exact .inl hi
    · rw [List.getElem?_append_right (by omega)] at hi
      have hi2 := (List.getElem?_eq_some_iff.1 hi).1
      simp only [List.singleton_append, List.length_cons, List.length_nil] at hi2
      by_cases e2 : i = vs.length
      · subst e2
        rw [Nat.sub_self] at hi
        simp only [List.singleton_append, List.getElem?_cons_zero, Option.some.injEq, Prod.mk.injEq] at hi
        exact .inr (.inl ⟨rfl, hi.1.symm, hi.2.symm⟩)
      · have e3 : i = vs.length + 1 := by omega
        subst e3
        rw [Nat.add_sub_cancel_left] at hi
        simp only [List.singleton_append, List.getElem?_cons_succ, List.getElem?_cons_zero, Option.some.injEq, Prod.mk.injEq] at hi
        exact .inr (.inr ⟨rfl, hi.1.symm, hi.2.symm⟩)
  refine ⟨hv.bel, fun i q u hi => ?_, fun i j q u u' hi hj => ?_⟩
  · rcases hat i q u hi with h5 | ⟨_, rfl, rfl⟩ | ⟨_, rfl, rfl⟩
    · exact hv.var i q u h5
    · exact ⟨Nat.le_trans h.bel.size ht, hbt2, tm2⟩
    · exact ⟨Nat.le_trans h.bel.size hr, h2, rm2⟩
  · rcases hat i q u hi with h5 | ⟨e1, e2, _⟩ | ⟨e1, e2, _⟩
    · rcases hat j q u' hj with h6 | ⟨_, e4, _⟩ | ⟨_, e4, _⟩
      · exact h.dis i j q u u' h5 h6
      · have := hlt i q u h5; omega
      · have := hlt i q u h5; omega
    · rcases hat j q u' hj with h6 | ⟨e3, e4, _⟩ | ⟨e3, e4, _⟩
      · have := hlt j q u' h6; omega
      · omega
      · exact absurd (e2.symm.trans e4) hne
    · rcases hat j q u' hj with h6 | ⟨e3, e4, _⟩ | ⟨e3, e4, _⟩
      · have := hlt j q u' h6; omega
      · exact absurd (e4.symm.trans e2) hne
      · omega
/-- A row of one element, just made. -/
theorem TR.one {B : Nat} {e : TypeId} {sz : Nat} {xs : List Value} (hB : B ≤ W.heap.size) (hl : xs.length = sz) (hd : ∀ u ∈ xs, Dry u) : TR (W.alloc (.cells xs.toArray e)) B e sz (some ⟨W.heap.size, 0, none⟩) 1 1 xs :=
  ⟨by omega, ⟨Nat.le_refl _, by unfold maxLen; omega⟩, .inr ⟨_, rfl, hB, _, heap_alloc_new W _, by simpa using hl, by rw [Nat.one_mul]; exact List.take_of_length_le (by show xs.length ≤ _; omega), fun u hu => hd u (by simpa using hu)⟩⟩
end
end Go.Proofs.YtpbpdnjlomhkdaaGreat
