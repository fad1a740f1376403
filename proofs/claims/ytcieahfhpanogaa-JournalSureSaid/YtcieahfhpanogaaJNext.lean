/-
  Contract of a journal's next.
-/
import Derived.Test.YtcieahfhpanogaaJRec
import Derived.Test.YtcieahfhpanogaaJNextM
import Derived.Scope
import Derived.Maps.OwnIn
namespace Go.Proofs.Ytcieahfhpanogaa
open Go.RowKit Go.Shelf
attribute [local go_sem] Oper.semAt_some

/-- The cells of writes. -/
def wcs : List (Nat × List UInt8) → List Sl → List Value
  | x :: l, s :: r => wv x.1 s ++ wcs l r
  | _, _ => []
theorem wcs_len : ∀ (l : List (Nat × List UInt8)) (sl : List Sl), sl.length = l.length → (wcs l sl).length = l.length * 2
  | [], _, _ => by simp [wcs]
  | x :: l, [], h => by simp at h
  | x :: l, s :: r, h => by
    have := wcs_len l r (by simpa using h)
    simp only [wcs, List.length_append, this, List.length_cons]
    simp [wv]
    omega
theorem wcs_snoc : ∀ (l : List (Nat × List UInt8)) (sl : List Sl) (x : Nat × List UInt8) (s : Sl), sl.length = l.length → wcs (l ++ [x]) (sl ++ [s]) = wcs l sl ++ wv x.1 s
  | [], [], x, s, _ => by simp [wcs]
  | [], _ :: _, _, _, h => by simp at h
  | _ :: _, [], _, _, h => by simp at h
  | y :: l, t :: r, x, s, h => by
    simp only [List.cons_append, wcs, wcs_snoc l r x s (by simpa using h), List.append_assoc]
theorem wcs_get : ∀ (l : List (Nat × List UInt8)) (sl : List Sl) (h : sl.length = l.length) (k : Nat) (hk : k < l.length), (wcs l sl)[k * 2]? = some (.int .i64 (l[k].1 : Int)) ∧ (wcs l sl)[k * 2 + 1]? = some (.slice (sl[k]'(by omega)).a (sl[k]'(by omega)).n (sl[k]'(by omega)).c)
  | [], _, _, k, hk => by simp at hk
  | _ :: _, [], h, _, _ => by simp at h
  | x :: l, s :: r, h, k, hk => by
    match k with
    | 0 => simp [wcs, wv]
    | k + 1 =>
      have := wcs_get l r (by simpa using h) k (by simpa using hk)
      simp only [wcs]
      rw [show (k + 1) * 2 = k * 2 + 2 by omega, List.getElem?_append_right (by simp [wv]), List.getElem?_append_right (by simp [wv])]
      simpa [wv] using this
/-- Writes in a row of the call's own. -/
structure WR (W : World) (base : Nat) (A : Option Addr) (c : Nat) (l : List (Nat × List UInt8)) (sl : List Sl) : Prop where
  len : sl.length = l.length
  row : W.ownsRow base 37 2 (.slice A l.length c) l.length (wcs l sl)
  bs : ∀ i (h : i < sl.length), BS W sl[i].a sl[i].n (l[i]'(by rw [← len]; exact h)).2
  cap : ∀ i (h : i < sl.length), sl[i].n ≤ sl[i].c
  own : ∀ i (h : i < sl.length), 0 < sl[i].n → ∀ ad, sl[i].a = some ad → base ≤ ad.block
  off : ∀ i (h : i < sl.length), 0 < sl[i].n → ∀ ad, sl[i].a = some ad → (Value.slice A l.length c).ownBlock ≠ some ad.block
theorem WR.ws {W : World} {base : Nat} {A : Option Addr} {c : Nat} {l : List (Nat × List UInt8)} {sl : List Sl} (h : WR W base A c l sl) : WS W (fun k => base ≤ k) A l.length (l.map fun x => ((x.1 : Int), x.2)) := by
  refine ⟨by simp, fun hn => ?_⟩
  rcases h.row.2 with ⟨h1, h2⟩ | ⟨g, cap, cur, h1, h2, h3, h4, h5, h6, h7⟩
  · omega
  · injection h1 with h1 _ _
    refine ⟨g, 0, h1, h2, fun k hk => ?_⟩
    have hkl : k < l.length := by simpa using hk
    obtain ⟨w1, w2⟩ := wcs_get l sl h.len k hkl
    have cell : ∀ j v, j < l.length * 2 → (wcs l sl)[j]? = some v → W.cell? ⟨g, 0 + j, none⟩ = some v := fun j v hj hv => by
      rw [Nat.zero_add, cell_of_row _ _ _ _ _ _ h3]
      rw [← h7, List.getElem?_take, if_pos hj] at hv
      simpa using hv
    refine ⟨sl[k]'(by rw [h.len]; exact hkl), ?_, ?_, ?_, h.cap k (by rw [h.len]; exact hkl), h.own k (by rw [h.len]; exact hkl)⟩
    · rw [cell _ _ (by omega) w1]
      simp
    · rw [Nat.add_assoc, cell _ _ (by omega) w2]
    · simpa using h.bs k (by rw [h.len]; exact hkl)
theorem WR.nil (W : World) (base : Nat) : WR W base none 0 [] [] := ⟨rfl, World.ownsRow_nil _ _ _ _, fun i h => by simp at h, fun i h => by simp at h, fun i h => by simp at h, fun i h => by simp at h⟩
/-- A row's block is a row of writes; bytes are bytes: whatever else is written leaves them. -/
theorem WR.keep {W W' : World} {base : Nat} {A : Option Addr} {c : Nat} {l : List (Nat × List UInt8)} {sl : List Sl} (h : WR W base A c l sl) (T : Nat → Prop) (hf : Fr T W W') (hT : ∀ k, T k → ∀ cur, W.heap[k]? ≠ some (.cells cur 37 (0, 0))) (hB : ∀ k, T k → ∀ o z, W.cell? ⟨k, o, none⟩ ≠ some (.int .u8 z)) : WR W' base A c l sl := by
  refine ⟨h.len, ⟨h.row.1, ?_⟩, fun i hi => ?_, h.cap, h.own, h.off⟩
  · rcases h.row.2 with h1 | ⟨g, cap, cur, h1, h2, h3, h4⟩
    · exact .inl h1
    · exact .inr ⟨g, cap, cur, h1, h2, (hf.block g ⟨(Array.getElem?_eq_some_iff.1 h3).1, fun hg => hT g hg cur h3⟩).trans h3, h4⟩
  · obtain ⟨b1, b2⟩ := h.bs i hi
    refine ⟨b1, fun hn => ?_⟩
    obtain ⟨b, o, e, hc⟩ := b2 hn
    refine ⟨b, o, e, fun j hj => ?_⟩
    rw [← hc j hj]
    exact World.cell?_of_block (hf.block b ⟨World.block_lt_of_cell? W _ (hc j hj), fun hb => hB b hb _ _ (hc j hj)⟩)

theorem WR.append {w7 w8 : World} {base : Nat} {A A' : Option Addr} {c c' : Nat} {l : List (Nat × List UInt8)} {sl : List Sl} {x : Nat × List UInt8} {s : Sl} (h : WR w7 base A c l sl) (h8 : w8.ownsRow base 37 2 (.slice A' (l.length + 1) c') (l.length + 1) (wcs l sl ++ wv x.1 s)) (hg : w7.grownBy w8 (Value.slice A l.length c).ownBlock)
    (hat : (Value.slice A' (l.length + 1) c').ownBlock = (Value.slice A l.length c).ownBlock ∨ (Value.slice A' (l.length + 1) c').ownBlock = some w7.heap.size) (hb : BS w7 s.a s.n x.2) (hc : s.n ≤ s.c) (hs : 0 < s.n → ∀ ad, s.a = some ad → base ≤ ad.block ∧ (Value.slice A l.length c).ownBlock ≠ some ad.block) : WR w8 base A' c' (l ++ [x]) (sl ++ [s]) := by
  have keepB : ∀ (a : Option Addr) (n : Nat) (b : List UInt8), BS w7 a n b → (0 < n → ∀ ad, a = some ad → (Value.slice A l.length c).ownBlock ≠ some ad.block) → BS w8 a n b := fun a n b hB ho =>
    ⟨hB.1, fun hn => by
      obtain ⟨bb, o, e, hcell⟩ := hB.2 hn
      exact ⟨bb, o, e, fun j hj => (World.cell?_of_block (hg.block bb (World.block_lt_of_cell? w7 _ (hcell j hj)) (fun e' => ho hn _ e e'.symm))).trans (hcell j hj)⟩⟩
  have offB : ∀ (a : Option Addr) (n : Nat) (b : List UInt8), BS w7 a n b → (0 < n → ∀ ad, a = some ad → (Value.slice A l.length c).ownBlock ≠ some ad.block) → (0 < n → ∀ ad, a = some ad → (Value.slice A' (l.length + 1) c').ownBlock ≠ some ad.block) := fun a n b hB ho hn ad e => by
    rcases hat with h1 | h1
    · rw [h1]; exact ho hn ad e
    · rw [h1]
      have := hB.lt_block hn ad e
      simp
      omega
  have hlen : (sl ++ [s]).length = (l ++ [x]).length := by simp [h.len]
  refine ⟨hlen, ?_, fun i hi => ?_, fun i hi => ?_, fun i hi h0 ad e => ?_, fun i hi h0 ad e => ?_⟩
  · rw [List.length_append, wcs_snoc _ _ _ _ h.len]; exact h8
  · by_cases hi' : i < sl.length
    · simp only [List.getElem_append_left hi', List.getElem_append_left (show i < l.length by rw [← h.len]; exact hi')]
      exact keepB _ _ _ (h.bs i hi') (h.off i hi')
    · obtain rfl : i = sl.length := by simp at hi; omega
      have e1 : (sl ++ [s])[sl.length]'hi = s := by simp
      have e2 : ∀ hh, (l ++ [x])[sl.length]'hh = x := by intro hh; simp [h.len]
      rw [e1, e2]
      exact keepB _ _ _ hb fun hn ad e => (hs hn ad e).2
  · by_cases hi' : i < sl.length
    · simp only [List.getElem_append_left hi']; exact h.cap i hi'
    · obtain rfl : i = sl.length := by simp at hi; omega
      have e1 : (sl ++ [s])[sl.length]'hi = s := by simp
      rw [e1]; exact hc
  · by_cases hi' : i < sl.length
    · simp only [List.getElem_append_left hi'] at h0 e; exact h.own i hi' h0 ad e
    · obtain rfl : i = sl.length := by simp at hi; omega
      have e1 : (sl ++ [s])[sl.length]'hi = s := by simp
      rw [e1] at h0 e; exact (hs h0 ad e).1
  · rw [List.length_append]
    show (Value.slice A' (l.length + 1) c').ownBlock ≠ _
    by_cases hi' : i < sl.length
    · simp only [List.getElem_append_left hi'] at h0 e; exact offB _ _ _ (h.bs i hi') (h.off i hi') h0 ad e
    · obtain rfl : i = sl.length := by simp at hi; omega
      have e1 : (sl ++ [s])[sl.length]'hi = s := by simp
      rw [e1] at h0 e; exact offB _ _ _ hb (fun hn ad e => (hs hn ad e).2) h0 ad e
theorem nxF_len (seq nb : Nat) (fm : Nat → Fm) {N : Nat} : ∀ (pre : List (Fin N)) (x y : Nx), nxF seq nb fm x pre = some y → y.l.length = x.l.length + pre.length
  | [], x, y, h => by simp only [nxF, Option.some.injEq] at h; subst h; rfl
  | i :: r, x, y, h => by
    simp only [nxF] at h
    cases hs : nxS seq nb x i.1 (fm i.1) with
    | on z =>
      rw [hs] at h
      have h1 := nxF_len seq nb fm r z y h
      have h2 : z.l.length = x.l.length + 1 := by
        unfold nxS at hs
        split at hs
        · split at hs
          · cases hs; simp
          · split at hs <;> cases hs
        · cases hs
      simp only [List.length_cons]
      omega
    | all => rw [hs] at h; cases h
    | no => rw [hs] at h; cases h
theorem infos_wr : (Try.prog.info? 37).map (fun i => (i.zero, i.size, i.bytes)) = some (some (.agg (wv 0 ⟨none, 0, 0⟩).toArray), 2, 32) := by kernel_rfl
theorem infos_wr2 (v : Int) (s : Sl) : (Try.prog.info? 37).map (fun i => (i.zero, i.size)) = some (some (.agg (wv 0 ⟨none, 0, 0⟩).toArray), (wv v s).toArray.size) := by kernel_rfl
theorem results_one {t : TypeId} {fn : Func} {p : Tmp} (h : fn.results = #[.cell p t]) (tmps : Array Value) (w : World) (ad : Addr) (v : Value) (hp : tmps.getD p undef = .pointer (some ad)) (hu : (Try.prog.underlying t).map (fun d => match d with | .struct _ | .array _ _ => true | _ => false) = some false) (hc : w.cell? ad = some v) : (results fn tmps).run Try.prog w = .ok v w := by
  have hp' : tmps[p]?.getD undef = .pointer (some ad) := by simpa using hp
  have hagg : (isAgg t).run Try.prog w = .ok false w := by
    cases hq : Try.prog.underlying t with
    | none => simp [hq] at hu
    | some d =>
      unfold isAgg
      rw [Sem.run_bind, run_underlying hq w]
      cases d <;> simp_all
  have hl : (loadVar t ad).run Try.prog w = .ok v w := by
    unfold loadVar
    rw [Sem.run_bind, hagg]
    simp [hc]
  simp [results, h, hp', asAddr, hl]
theorem put_block {W : World} {k Dd : Nat} {o o' : Obj} (h : W.heap[k]? = some o) (hk : k ≠ Dd) : (W.putObj Dd o').heap[k]? = some o := by
  have hg := grownBy_putObj' W Dd o'
  exact (hg.block k (Array.getElem?_eq_some_iff.1 h).1 (fun e => hk (by simpa using e))).trans h
theorem nxS_no {seq nb i : Nat} {y : Nx} {f : Fm} (h : ¬ (f.s = seq + 1 ∧ f.i.toNat = i ∧ f.c.toNat = cntOf i y.cnt f)) : nxS seq nb y i f = .no := by unfold nxS; rw [if_neg h]
theorem nxS_on {seq nb i : Nat} {y : Nx} {f : Fm} (h : f.s = seq + 1 ∧ f.i.toNat = i ∧ f.c.toNat = cntOf i y.cnt f) (h2 : i < cntOf i y.cnt f ∧ isDat nb f = true) : nxS seq nb y i f = .on ⟨cntOf i y.cnt f, y.l ++ [(f.a, f.b)]⟩ := by unfold nxS; rw [if_pos h, if_pos h2]
theorem nxS_all {seq nb i : Nat} {y : Nx} {f : Fm} (h : f.s = seq + 1 ∧ f.i.toNat = i ∧ f.c.toNat = cntOf i y.cnt f) (h2 : ¬ (i < cntOf i y.cnt f ∧ isDat nb f = true)) (h3 : i = cntOf i y.cnt f ∧ isEn f = true) : nxS seq nb y i f = .all := by unfold nxS; rw [if_pos h, if_neg h2, if_pos h3]
theorem nxS_no2 {seq nb i : Nat} {y : Nx} {f : Fm} (h2 : ¬ (i < cntOf i y.cnt f ∧ isDat nb f = true)) (h3 : ¬ (i = cntOf i y.cnt f ∧ isEn f = true)) : nxS seq nb y i f = .no := by
  unfold nxS
  rw [if_neg h2, if_neg h3]
  split <;> rfl
/-- What next knows between two rounds. -/
structure NxI (w W0 : World) (seq nb : Nat) (fm : Nat → Fm) {N : Nat} (pre : List (Fin N)) (W : World) : Prop where
  keep : Keep (fun k => k < W0.heap.size ∧ k ≠ w.heap.size + 1 + 1 ∧ k ≠ w.heap.size + 1 + 1 + 1) W0 W
  st : ∃ y A c sl, nxF seq nb fm ⟨0, []⟩ pre = some y ∧ W.heap[w.heap.size + 1 + 1 + 1]? = some (.cells #[.int .i64 (y.cnt : Int)] 3 (0, 0)) ∧ W.heap[w.heap.size + 1 + 1]? = some (.cells #[.slice A y.l.length c] 35 (0, 0)) ∧ WR W W0.heap.size A c y.l sl
/-- .. and when it has left. -/
structure NxX (w W0 : World) (seq nb : Nat) (fm : Nat → Fm) (c : Code) {N : Nat} (pre : List (Fin N)) (W : World) : Prop where
  keep : Keep (fun k => k < W0.heap.size ∧ k ≠ w.heap.size + 1 ∧ k ≠ w.heap.size + 1 + 1 ∧ k ≠ w.heap.size + 1 + 1 + 1) W0 W
  st : ∃ pre' x y, pre = pre' ++ [x] ∧ nxF seq nb fm ⟨0, []⟩ pre' = some y ∧ ((c = .ret ∧ nxS seq nb y x.1 (fm x.1) = .all ∧ ∃ A cc sl, W.heap[w.heap.size + 1]? = some (.cells #[.slice A y.l.length cc] 35 (0, 0)) ∧ WR W W0.heap.size A cc y.l sl) ∨ (c = .exit 0 ∧ nxS seq nb y x.1 (fm x.1) = .no ∧ ∃ v, W.heap[w.heap.size + 1]? = some (.cells #[v] 35 (0, 0))))
theorem cell_none {W : World} {k : Nat} {o : Obj} (h : W.heap[k]? = some o) (ho : o.isCells = false) (i : Nat) (v : Value) : W.cell? ⟨k, i, none⟩ ≠ some v := fun e => by
  obtain ⟨o', h1, h2⟩ := isCells_of_cell e
  rw [h] at h1
  cases h1
  rw [ho] at h2
  cases h2
theorem WR.turn {W W' : World} {base B : Nat} {A : Option Addr} {c : Nat} {l : List (Nat × List UInt8)} {sl : List Sl} {row : Option Nat} (h : WR W base A c l sl) (hg : W.grownBy W' row) (hr : ∀ r, row = some r → B ≤ r ∧ ∃ o : Obj, W.heap[r]? = some o ∧ o.isCells = false) : WR W' base A c l sl := by
  refine h.keep (fun k => row = some k) ⟨hg.os, hg.tape, hg.output, hg.size, fun k hk => hg.block k hk.1 (fun e => hk.2 e.symm)⟩ (fun k hk cur e => ?_) (fun k hk o z => ?_)
  · obtain ⟨_, o, h1, h2⟩ := hr k hk
    rw [h1] at e
    cases e
    cases h2
  · obtain ⟨_, o', h1, h2⟩ := hr k hk
    exact cell_none h1 h2 _ _
theorem NxI.own {w W0 : World} {seq nb : Nat} {fm : Nat → Fm} {N : Nat} (h0 : w.heap.size + 6 ≤ W0.heap.size) : OwnFrom W0.heap.size (NxI w W0 seq nb fm (N := N)) := fun pre W W' row h hg hr => by
  obtain ⟨y, A, c, sl, h1, h2, h3, h4⟩ := h.st
  have hk : ∀ k, k < W0.heap.size → k < W.heap.size → W'.heap[k]? = W.heap[k]? := fun k hk hk' => hg.block k hk' (fun e => by have := (hr k e.symm).1; omega)
  have hs := h.keep.size
  refine ⟨h.keep.trans ⟨hg.os, hg.tape, hg.output, hg.size, fun k hk' => hk k hk'.1 (by omega)⟩, y, A, c, sl, h1, (hk _ (by omega) (by omega)).trans h2, (hk _ (by omega) (by omega)).trans h3, h4.turn hg hr⟩
theorem NxX.own {w W0 : World} {seq nb : Nat} {fm : Nat → Fm} {cd : Code} {N : Nat} (h0 : w.heap.size + 6 ≤ W0.heap.size) : OwnFrom W0.heap.size (NxX w W0 seq nb fm cd (N := N)) := fun pre W W' row h hg hr => by
  obtain ⟨pre', x, y, h1, h2, h3⟩ := h.st
  have hk : ∀ k, k < W0.heap.size → k < W.heap.size → W'.heap[k]? = W.heap[k]? := fun k hk hk' => hg.block k hk' (fun e => by have := (hr k e.symm).1; omega)
  have hs := h.keep.size
  refine ⟨h.keep.trans ⟨hg.os, hg.tape, hg.output, hg.size, fun k hk' => hk k hk'.1 (by omega)⟩, pre', x, y, h1, h2, ?_⟩
  rcases h3 with ⟨e, ha, A, cc, sl, h5, h6⟩ | ⟨e, hn, v, h5⟩
  · exact .inl ⟨e, ha, A, cc, sl, (hk _ (by omega) (by omega)).trans h5, h6.turn hg hr⟩
  · exact .inr ⟨e, hn, v, (hk _ (by omega) (by omega)).trans h5⟩

section
variable {w : World} {p dp : Nat} {S D : Nat → Prop} {j : J.JS} {d : DS}
set_option maxRecDepth 100000 in
set_option maxHeartbeats 8000000 in
theorem next_in (h : JD w p dp S D j d) (hs : d.pend.length ≤ 1000000) (hup : d.down = false) (hN : 1 + j.log ≤ d.n) (hl4 : 4 ≤ j.log) (hl : j.log ≤ 200) (hnb : j.nb ≤ 400) (hpl : j.place < j.log) (hus : j.used ≤ j.log) (hsq : j.seq + 1 < 18446744073709551616) :
    CallsIn Fence.wide 9 Try.prog 40 #[.pointer (some ⟨p, 0, none⟩)] w fun e w' =>
      ∃ A c, e = .returned (.slice A (J.chg d.read j.log j.nb j.place (j.seq + 1) (j.log - j.used)).length c) ∧ WS w' (fun k => w.heap.size ≤ k) A (J.chg d.read j.log j.nb j.place (j.seq + 1) (j.log - j.used)).length ((J.chg d.read j.log j.nb j.place (j.seq + 1) (j.log - j.used)).map fun x => ((x.1 : Int), x.2)) ∧ Below w.heap.size w w' := by
  have HJ := Lib.hid h
  have HU := Lib.hid hup
  have HN := Lib.hid hN
  clear h hup hN
  refine callsIn_of_wp_marks Try.func40 rfl trivial ?_ rfl
  simp only [Try.ntmps40, List.size_toArray, List.length_cons, List.length_nil, Nat.reduceAdd, Nat.reduceSub, Array.replicate_succ, Array.replicate_zero, List.push_toArray, List.append_toArray, List.nil_append, List.cons_append]
  gi_wp2
  refine wpIn_wide.2 (wp_scope_straight ((wpIn_wide (n := 9)).1 ?_))
  gi_wp2
  obtain ⟨W1, hW1, hS1, hb0, hb1, hb2, hb3, hB1⟩ := four_new w (.cells #[.pointer (some ⟨p, 0, none⟩)] 30) (.cells #[.slice none 0 0] 35) (.cells #[.slice none 0 0] 35) (.cells #[.int .i64 0] 3)
  rw [← hW1]
  have HS1 := Lib.hid hS1
  have HB0 := Lib.hid hb0
  have HB1 := Lib.hid hb1
  have HB2 := Lib.hid hb2
  have HB3 := Lib.hid hb3
  have HBW := Lib.hid hB1
  have c0 : W1.cell? ⟨w.heap.size, 0, none⟩ = some (.pointer (some ⟨p, 0, none⟩)) := by rw [cell_of_row _ _ _ _ _ _ hb0]; rfl
  have HJ1 := Lib.hid (HJ.out.below hB1)
  obtain ⟨-, q1, -, -, q5, -⟩ := HJ1.out.cell
  have hwp : IntKind.i64.wrap ((j.log : Int) - (j.used : Int)) = ((j.log - j.used : Nat) : Int) := by rw [IntKind.wrap_i64]; omega
  clear hW1 hS1 hb0 hb1 hb2 hb3 hB1
  refine wpIn_label ?_
  gi_wp2
  with_reducible refine (wideF_wide _).region 10 (by kernel_rfl) (by kernel_rfl) (by kernel_rfl) ?_
  simp only [List.take_succ_cons, List.take_zero, List.drop_succ_cons, List.drop_zero]
  iterate 10 still_step
  refine wpStill_nil ?_
  change wpListIn _ _ _ _ _ _ _ (World.drew _)
  clear c0 q1 q5
  gi_wp2_with (first
    | (refine ⟨trivial, ?_⟩; gi_at_call 43; refine (sectors_any _ p _ _).mono ?_; rintro e W0 ⟨rfl, hs0, hb4, hb5, hB0⟩))
  have hs0' : W0.heap.size = w.heap.size + 6 := by rw [hs0]; show W1.heap.size + 2 = _; rw [HS1.out]
  have HS0 := Lib.hid hs0'
  have HB4 : Hid (W0.heap[W1.heap.size]? = some (.cells #[.pointer (some ⟨p, 0, none⟩)] 30 (0, 0))) := hb4
  have HB5 : Hid (W0.heap[W1.heap.size + 1]? = some (.cells #[.int .i64 ((j.log - j.used : Nat) : Int)] 3 (0, 0))) := hb5
  have HBL : Hid (Below W1.heap.size W1 W0) := (Below.refl _ _).drew.trans hB0
  have HBW0 : Hid (Below w.heap.size w W0) := HBW.out.trans (HBL.out.mono HBW.out.size)
  have HJ0 := Lib.hid (HJ.out.below HBW0.out)
  clear hs0 hb4 hb5 hB0 hs0' hwp
  have HS06 : Hid (w.heap.size + 6 ≤ W0.heap.size) := by show _ ≤ _; rw [HS0.out]; exact Nat.le_refl _
  obtain ⟨-, q1, -, q4, -⟩ := HJ0.out.cell
  refine wpIn_rangeFunc_ownG rfl (by omega) (gf := 55) (lb := #[.pointer (some ⟨W1.heap.size + 1, 0, none⟩), .pointer (some ⟨W1.heap.size, 0, none⟩)]) rfl trivial (enters_of Try.func55 (by kernel_rfl) rfl)
    (sectors_stops (9 - 1) (W1.heap.size + 1) W1.heap.size p (j.log - j.used) j.log j.place (fun k => k = W1.heap.size) W0 (by rw [cell_of_row _ _ _ _ _ _ HB5.out]; rfl) (by rw [cell_of_row _ _ _ _ _ _ HB4.out]; rfl) q1 q4 rfl (by omega) (by omega) (by omega) (by omega))
    (fun h k => KpJ.trans h k) ?hKb (Below.refl _ _) (fun _ => rfl) (NxI w W0 j.seq j.nb (fmAt d.read j.log j.place)) (fun c => NxX w W0 j.seq j.nb (fmAt d.read j.log j.place) c) (NxI.own HS06.out) (fun c => NxX.own HS06.out) ?h0
    (fun x => { tmps := #[.pointer (some ⟨p, 0, none⟩), .pointer (some ⟨w.heap.size, 0, none⟩), .pointer (some ⟨w.heap.size + 1, 0, none⟩), .pointer (some ⟨w.heap.size + 1 + 1, 0, none⟩), .pointer (some ⟨w.heap.size + 1 + 1 + 1, 0, none⟩), .int .i64 (x.1 : Int), .int .i64 (secAt j.log j.place x.1), undef, .pointer (some ⟨p, 0, none⟩), .pointer (some ⟨p, 0, none⟩), .pointer (some ⟨p, 0, none⟩), .pointer (some ⟨p, 1, none⟩), .int .i64 (j.log : Int), .pointer (some ⟨p, 0, none⟩), .pointer (some ⟨p, 0, none⟩), .pointer (some ⟨p, 5, none⟩), .int .i64 (j.used : Int), .int .i64 ((j.log - j.used : Nat) : Int), .func (.func 55) #[] #[.pointer (some ⟨W1.heap.size + 1, 0, none⟩), .pointer (some ⟨W1.heap.size, 0, none⟩)], .int .i64 (x.1 : Int), .int .i64 (secAt j.log j.place x.1), undef, undef, undef, undef, undef, undef, undef, undef, undef, undef, undef, undef, undef, undef, undef, undef, undef, undef, undef, undef, undef, undef, undef, undef, undef, undef, undef, undef, undef, undef, undef, undef, undef, undef, undef, undef, undef, undef, undef, undef, undef, undef, undef, undef, undef, undef, undef, undef, undef, undef, undef, undef, undef, undef, undef], defers := [] }) ?assign ?body ?done ?stop
  case hKb =>
    intro W g o o' hg hb ho hw'
    have hgr := grownBy_putObj' W g o'
    have hplt : p < W0.heap.size := HJ0.out.plt
    have hglt := (Array.getElem?_eq_some_iff.1 hb).1
    have hS := HS1.out
    have hS0 := HS0.out
    refine ⟨⟨hgr.os, hgr.tape, hgr.output, hgr.size, fun k hk => hgr.block k (by omega) (fun e => by cases e; omega)⟩, ?_, ?_⟩
    · exact World.cell?_of_block (a := ⟨p, 1, none⟩) (hgr.block p (by omega) (fun e => by cases e; omega))
    · exact World.cell?_of_block (a := ⟨p, 4, none⟩) (hgr.block p (by omega) (fun e => by cases e; omega))
  case h0 =>
    have hS := HS1.out
    exact ⟨Keep.refl _ _, ⟨0, []⟩, none, 0, [], rfl, (HBL.out.block _ (by omega)).trans HB3.out, (HBL.out.block _ (by omega)).trans HB2.out, WR.nil _ _⟩
  case assign =>
    intro l x W K hK
    gi_wp2
    exact hK
  case body =>
    rintro lp pre x W hI hlen
    obtain ⟨y, A, c, sl, h1, h2, h3, h4⟩ := hI.st
    have HKP := Lib.hid hI.keep
    have HF1 := Lib.hid h1
    have HC4 := Lib.hid h2
    have HC3 := Lib.hid h3
    have HWR := Lib.hid h4
    have HWs : Hid (w.heap.size + 6 ≤ W.heap.size) := Nat.le_trans HS06.out hI.keep.size
    have HX0 : Hid (W.heap[w.heap.size]? = some (.cells #[.pointer (some ⟨p, 0, none⟩)] 30 (0, 0))) := (hI.keep.block _ ⟨by have := HS06.out; omega, by omega, by omega⟩).trans ((HBL.out.block _ (by have := HS1.out; omega)).trans HB0.out)
    have HX1 : Hid (W.heap[w.heap.size + 1]? = some (.cells #[.slice none 0 0] 35 (0, 0))) := (hI.keep.block _ ⟨by have := HS06.out; omega, by omega, by omega⟩).trans ((HBL.out.block _ (by have := HS1.out; omega)).trans HB1.out)
    have HBw : Hid (Below w.heap.size w W) := HBW0.out.trans (Keep.below (hI.keep.mono fun k hk => by have := HS06.out; omega))
    have HJW := Lib.hid (HJ.out.below HBw.out)
    have b0 : W.cell? ⟨w.heap.size, 0, none⟩ = some (.pointer (some ⟨p, 0, none⟩)) := by rw [cell_of_row _ _ _ _ _ _ HX0.out]; rfl
    have HFM : Hid (frm d (secAt j.log j.place x.1) = fmAt d.read j.log j.place x.1) := by
      show _ = _
      have hz : (j.place + x.1) % j.log < j.log := Nat.mod_lt _ (by omega)
      have := frm_up (d := d) (i := 1 + (j.place + x.1) % j.log) HU.out (by have := HN.out; omega)
      unfold fmAt
      rw [← this]
      unfold secAt
      push_cast
      rfl
    have hxR : x.1 < j.log - j.used := x.2
    have HXR := Lib.hid hxR
    have HFA := Lib.hid (getF_a (d.read ((1 + (j.place + x.1) % j.log : Nat) : Int)))
    have HFS := Lib.hid (getF_s (d.read ((1 + (j.place + x.1) % j.log : Nat) : Int)))
    have HFB := Lib.hid (getF_b (d.read ((1 + (j.place + x.1) % j.log : Nat) : Int)))
    change Hid ((fmAt d.read j.log j.place x.1).a < _) at HFA
    change Hid ((fmAt d.read j.log j.place x.1).s < _) at HFS
    change Hid ((fmAt d.read j.log j.place x.1).b.length ≤ _) at HFB
    have HNS : Hid (∀ u, nxS j.seq j.nb y x.1 (fmAt d.read j.log j.place x.1) = .on u → nxF j.seq j.nb (fmAt d.read j.log j.place) ⟨0, []⟩ (pre ++ [x]) = some u) := fun u hu => by (rw [nxF_snoc, HF1.out]; simp only [hu])
    have HCP : Hid (∀ cd W', Keep (fun k => k < W0.heap.size ∧ k ≠ w.heap.size + 1 ∧ k ≠ w.heap.size + 1 + 1 ∧ k ≠ w.heap.size + 1 + 1 + 1) W0 W' → (∃ v, W'.heap[w.heap.size + 1]? = some (.cells #[v] 35 (0, 0))) → cd = .exit 0 → nxS j.seq j.nb y x.1 (fmAt d.read j.log j.place x.1) = .no → NxX w W0 j.seq j.nb (fmAt d.read j.log j.place) cd (pre ++ [x]) W') := fun cd W' hk hv hc hn => ⟨hk, pre, x, y, rfl, HF1.out, .inr ⟨hc, hn, hv⟩⟩
    have HCA : Hid (∀ cd W' A' cc sl', Keep (fun k => k < W0.heap.size ∧ k ≠ w.heap.size + 1 ∧ k ≠ w.heap.size + 1 + 1 ∧ k ≠ w.heap.size + 1 + 1 + 1) W0 W' → W'.heap[w.heap.size + 1]? = some (.cells #[.slice A' y.l.length cc] 35 (0, 0)) → WR W' W0.heap.size A' cc y.l sl' → cd = .ret → nxS j.seq j.nb y x.1 (fmAt d.read j.log j.place x.1) = .all → NxX w W0 j.seq j.nb (fmAt d.read j.log j.place) cd (pre ++ [x]) W') := fun cd W' A' cc sl' hk hb hw hc hn => ⟨hk, pre, x, y, rfl, HF1.out, .inl ⟨hc, hn, A', cc, sl', hb, hw⟩⟩
    have HLEN := Lib.hid hlen
    clear hI h1 h2 h3 h4 q1 q4 hlen
    generalize fmAt d.read j.log j.place x.1 = f at *
    by_cases hx0 : (x.1 : Int) = 0
    · have hx0b : ((x.1 : Int) == 0) = true := by simpa using hx0
      have HCT : Hid (cntOf x.1 y.cnt f = f.c.toNat) := by show _ = _; unfold cntOf; rw [if_pos (by omega)]
      clear hx0
      gi_wp2_with (first
        | (refine ⟨trivial, ?_⟩
           gi_at_call 38
           refine (CallsIn.inRound lp (callsIn_wide.2 (frame_any HJW.out hs _))).mono ?_
           rintro e w2 ⟨A2, n2, c2, rfl, hb2, hc2, hn2, hw2⟩
           rw [HFM.out] at hb2 ⊢
           have HB2 := Lib.hid hb2
           have HCC2 := Lib.hid hc2
           have HN2 := Lib.hid hn2
           have HW2 := Lib.hid hw2
           clear hb2 hc2 hn2 hw2)
        | (refine wpListIn_alloc_any rfl 76 rfl _ zero_frame ?_
           intro w3 hb3 hs3 hw3
           have HB3' := Lib.hid hb3
           have HW3 := Lib.hid hw3
           clear hb3 hs3 hw3)
        | (refine wpListIn_store_any rfl 76 (.tmp 7) (.tmp 23) rfl w2.heap.size (fv f A2 n2 c2) rfl rfl 76 _ HB3'.out (fv_size _ _ _ _) rfl (fv_one _ _ _ _) ?_
           intro w4 hb4 hs4 hw4
           have HG4 := Lib.hid hb4
           have HW4 : Hid (Below W.heap.size W w4) := HW2.out.trans ((HW3.out.mono HW2.out.size).trans (Keep.below (hw4.mono fun k hk => by have := HW2.out.size; omega)))
           have HW42 : Hid (Below w2.heap.size w2 w4) := HW3.out.trans (Keep.below (hw4.mono fun k hk => by omega))
           have g2 : w4.cell? ⟨w2.heap.size, 2, none⟩ = some (.int .i64 (f.c.toNat : Int)) := by rw [cell_of_row _ _ _ _ _ _ hb4]; rfl
           have b4 : w4.cell? ⟨w.heap.size + 1 + 1 + 1, 0, none⟩ = some (.int .i64 (y.cnt : Int)) := by rw [cell_of_row _ _ _ _ _ _ ((HW4.out.block _ (by have := HWs.out; omega)).trans HC4.out)]; rfl
           have z4 : w4.frozen? ⟨w.heap.size + 1 + 1 + 1, 0, none⟩ = false := by simp [World.frozen?, (HW4.out.block _ (by have := HWs.out; omega)).trans HC4.out]
           clear hb4 hs4 hw4))
      have HB4' : Hid (w4.heap[w.heap.size + 1 + 1 + 1]? = some (.cells #[.int .i64 (y.cnt : Int)] 3 (0, 0))) := (HW4.out.block _ (by have := HWs.out; omega)).trans HC4.out
      have HC5 : Hid ((w4.setCell ⟨w.heap.size + 1 + 1 + 1, 0, none⟩ (.int .i64 (f.c.toNat : Int))).heap[w.heap.size + 1 + 1 + 1]? = some (.cells #[.int .i64 (cntOf x.1 y.cnt f : Int)] 3 (0, 0))) := by
        show _ = _
        rw [setCell_eq_setRow _ _ _ _ _ _ _ HB4'.out, setRow_heap _ _ _ _ _ _ HB4'.out, HCT.out]
        simp
      have HK45 : Hid (Keep (fun k => k ≠ w.heap.size + 1 + 1 + 1) w4 (w4.setCell ⟨w.heap.size + 1 + 1 + 1, 0, none⟩ (.int .i64 (f.c.toNat : Int)))) := (Keep.refl _ w4).setCell (p := ⟨w.heap.size + 1 + 1 + 1, 0, none⟩) (fun h => h rfl) _
      clear g2 b4 z4 HB4'
      generalize w4.setCell ⟨w.heap.size + 1 + 1 + 1, 0, none⟩ (.int .i64 (f.c.toNat : Int)) = w5 at *
      have hws := HWs.out
      have hs6 := HS06.out
      have HK5 : Hid (Keep (fun k => k < W.heap.size ∧ k ≠ w.heap.size + 1 + 1 + 1) W w5) := ((Keep.of_below HW4.out).mono fun k hk => hk.1).trans (HK45.out.mono fun k hk => hk.2)
      have HG5 : Hid (w5.heap[w2.heap.size]? = some (.cells (fv f A2 n2 c2) 76 (0, 0))) := (HK45.out.block _ (by have := HW2.out.size; omega)).trans HG4.out
      have HBS5 : Hid (BS w5 A2 n2 f.b) := (HB2.out.below HW42.out).aside HK45.out fun ad e => by have := HN2.out ad e; omega
      have HWR5 : Hid (WR w5 W0.heap.size A c y.l sl) := (HWR.out.keep (fun _ => False) (Fr.of_below HW4.out) (fun _ h => h.elim) (fun _ h => h.elim)).keep (fun k => k = w.heap.size + 1 + 1 + 1) (Keep.mono HK45.out fun k hk => hk.2) (fun k hk cur e => by
          subst hk
          rw [HW4.out.block _ (by omega), HC4.out] at e
          simp only [Option.some.injEq, Obj.cells.injEq] at e
          exact absurd e.2.1 (by decide)) (fun k hk o z e => by
          subst hk
          rw [cell_of_row _ _ _ _ _ _ ((HW4.out.block _ (by omega)).trans HC4.out)] at e
          match o with
          | 0 => simp at e
          | n + 1 => simp at e)
      have HC35 : Hid (w5.heap[w.heap.size + 1 + 1]? = some (.cells #[.slice A y.l.length c] 35 (0, 0))) := (HK5.out.block _ ⟨by omega, by omega⟩).trans HC3.out
      have HX15 : Hid (w5.heap[w.heap.size + 1]? = some (.cells #[.slice none 0 0] 35 (0, 0))) := (HK5.out.block _ ⟨by omega, by omega⟩).trans HX1.out
      have HBw5 : Hid (Below w.heap.size w w5) := HBw.out.trans (Keep.below (HK5.out.mono fun k hk => ⟨by omega, by omega⟩))
      have HJ5 := Lib.hid (HJ.out.below HBw5.out)
      have HKW0 : Hid (Keep (fun k => k < W0.heap.size ∧ k ≠ w.heap.size + 1 ∧ k ≠ w.heap.size + 1 + 1 ∧ k ≠ w.heap.size + 1 + 1 + 1) W0 w5) := (HKP.out.mono fun k hk => ⟨hk.1, hk.2.2.1, hk.2.2.2⟩).trans (HK5.out.mono fun k hk => ⟨Nat.lt_of_lt_of_le hk.1 HKP.out.size, hk.2.2.2⟩)
      have HKF5 : Hid (KeepsFrom W0.heap.size W w5) := ⟨HK5.out.size, fun k o hB hk _ => (HK5.out.block k ⟨(Array.getElem?_eq_some_iff.1 hk).1, by omega⟩).trans hk⟩
      have HNO : Hid (∀ W', Keep (fun k => k < w5.heap.size) w5 W' → nxS j.seq j.nb y x.1 f = .no → KeepsFrom W0.heap.size W W' ∧ NxX w W0 j.seq j.nb (fmAt d.read j.log j.place) (.exit 0) (pre ++ [x]) W') := fun W' hk hn =>
        ⟨HKF5.out.trans ⟨hk.size, fun k o _ hk' _ => (hk.block k (Array.getElem?_eq_some_iff.1 hk').1).trans hk'⟩, HCP.out _ _ (HKW0.out.trans (hk.mono fun k hk' => Nat.lt_of_lt_of_le hk'.1 HKW0.out.size)) ⟨_, (hk.block _ (Array.getElem?_eq_some_iff.1 HX15.out).1).trans HX15.out⟩ rfl hn⟩
      have b0' : w5.cell? ⟨w.heap.size, 0, none⟩ = some (.pointer (some ⟨p, 0, none⟩)) := by rw [cell_of_row _ _ _ _ _ _ ((HK5.out.block _ ⟨by omega, by omega⟩).trans HX0.out)]; rfl
      have b3' : w5.cell? ⟨w.heap.size + 1 + 1, 0, none⟩ = some (.slice A y.l.length c) := by rw [cell_of_row _ _ _ _ _ _ HC35.out]; rfl
      have b4' : w5.cell? ⟨w.heap.size + 1 + 1 + 1, 0, none⟩ = some (.int .i64 (cntOf x.1 y.cnt f : Int)) := by rw [cell_of_row _ _ _ _ _ _ HC5.out]; rfl
      have f0 : w5.cell? ⟨w2.heap.size, 0, none⟩ = some (.int .i64 (f.k.toNat : Int)) := by rw [cell_of_row _ _ _ _ _ _ HG5.out]; rfl
      have f1 : w5.cell? ⟨w2.heap.size, 1, none⟩ = some (.int .i64 (f.i.toNat : Int)) := by rw [cell_of_row _ _ _ _ _ _ HG5.out]; rfl
      have f2 : w5.cell? ⟨w2.heap.size, 2, none⟩ = some (.int .i64 (f.c.toNat : Int)) := by rw [cell_of_row _ _ _ _ _ _ HG5.out]; rfl
      have f3 : w5.cell? ⟨w2.heap.size, 3, none⟩ = some (.int .u64 (f.s : Int)) := by rw [cell_of_row _ _ _ _ _ _ HG5.out]; rfl
      have f4 : w5.cell? ⟨w2.heap.size, 4, none⟩ = some (.int .u32 (f.a : Int)) := by rw [cell_of_row _ _ _ _ _ _ HG5.out]; rfl
      have f5 : w5.cell? ⟨w2.heap.size, 5, none⟩ = some (.slice A2 n2 c2) := by rw [cell_of_row _ _ _ _ _ _ HG5.out]; rfl
      obtain ⟨-, -, q3, -, -⟩ := HJ5.out.cell
      have hwq : IntKind.u64.wrap ((j.seq : Int) + 1) = (j.seq : Int) + 1 := by rw [IntKind.wrap_u64]; omega
      have HKPs : Hid (W0.heap.size ≤ W.heap.size) := HKP.out.size
      have HOBW : Hid (∀ k, (Value.slice A y.l.length c).ownBlock = some k → k < W.heap.size) := fun k hk => by
        rcases HWR.out.row.2 with ⟨h0, _⟩ | ⟨g, cap, cur, h1, h2, h3, h4⟩
        · rw [h0] at hk; cases hk
        · rw [h1] at hk
          obtain rfl : g = k := by simpa [Value.ownBlock] using hk
          exact (Array.getElem?_eq_some_iff.1 h3).1
      clear HC4 HC3 HWR HX0 HX1 HBw HJW HFM HB2 HW2 HB3' HW3 HG4 HW4 HW42 HK45
      generalize hct : cntOf x.1 y.cnt f = ct at *
      have HCE := Lib.hid hct
      clear hct
      have HJd : Hid (JD w5.drew p dp S D j d) := HJ5.out.below (Below.refl _ _).drew
      have HWR7 : ∀ w7, Below w5.heap.size w5 w7 → WR w7 W0.heap.size A c y.l sl := fun w7 hb => HWR5.out.keep (fun _ => False) (Fr.of_below hb) (fun _ h => h.elim) (fun _ h => h.elim)
      have HALL : Hid (∀ W6, Below w5.heap.size w5 W6 → nxS j.seq j.nb y x.1 f = .all → KeepsFrom W0.heap.size W (W6.setCell ⟨w.heap.size + 1, 0, none⟩ (.slice A y.l.length c)) ∧ NxX w W0 j.seq j.nb (fmAt d.read j.log j.place) .ret (pre ++ [x]) (W6.setCell ⟨w.heap.size + 1, 0, none⟩ (.slice A y.l.length c))) := fun W6 hb hn => by
        have hX : W6.heap[w.heap.size + 1]? = some (.cells #[.slice none 0 0] 35 (0, 0)) := (hb.block _ (Array.getElem?_eq_some_iff.1 HX15.out).1).trans HX15.out
        refine ⟨(HKF5.out.trans ⟨hb.size, fun k o _ hk _ => (hb.block k (Array.getElem?_eq_some_iff.1 hk).1).trans hk⟩).trans ((KeepsOthers.setCell _ _ _).from _), HCA.out _ _ A c sl ?_ ?_ ?_ rfl hn⟩
        · exact (HKW0.out.trans ((Keep.of_below hb).mono fun k hk => Nat.lt_of_lt_of_le hk.1 HKW0.out.size)).setCell (p := ⟨w.heap.size + 1, 0, none⟩) (fun h => h.2.1 rfl) _
        · rw [setCell_eq_setRow _ _ _ _ _ _ _ hX, setRow_heap _ _ _ _ _ _ hX]
          simp
        · refine (HWR7 W6 hb).keep (fun k => k = w.heap.size + 1) ((Fr.refl (fun k => k = w.heap.size + 1) W6).setCell (p := ⟨w.heap.size + 1, 0, none⟩) (fun h => h.2 rfl) _) (fun k hk cur e => ?_) (fun k hk o z e => ?_)
          · subst hk
            rw [hX] at e
            simp only [Option.some.injEq, Obj.cells.injEq] at e
            exact absurd e.2.1 (by decide)
          · subst hk
            rw [cell_of_row _ _ _ _ _ _ hX] at e
            match o with
            | 0 => simp at e
            | n + 1 => simp at e
      have HYL : Hid (y.l.length ≤ 200) := by
        show _ ≤ _
        have h1 := nxF_len _ _ _ _ _ _ HF1.out
        have h2 := HLEN.out
        simp only [List.length_nil] at h1
        omega
      have HOB : Hid (∀ k, (Value.slice A y.l.length c).ownBlock = some k → w.heap.size + 1 + 1 ≠ k) := fun k hk e => by
        subst e
        rcases HWR5.out.row.2 with ⟨h0, _⟩ | ⟨g, cap, cur, h1, h2, h3, h4⟩
        · rw [h0] at hk; cases hk
        · rw [h1] at hk
          obtain rfl : g = w.heap.size + 1 + 1 := by simpa [Value.ownBlock] using hk
          omega
      have HOFF : Hid (0 < n2 → ∀ ad, A2 = some ad → W0.heap.size ≤ ad.block ∧ (Value.slice A y.l.length c).ownBlock ≠ some ad.block) := fun h0 ad e => by
        have h1 := HN2.out ad e
        have h2 := HKPs.out
        refine ⟨by omega, fun e2 => ?_⟩
        have := HOBW.out _ e2
        omega
      have hca : IntKind.i64.wrap (f.a : Int) = (f.a : Int) := by rw [IntKind.wrap_i64]; have := HFA.out; omega
      by_cases c1 : (f.s : Int) = (j.seq : Int) + 1
      · by_cases c2' : (f.i.toNat : Int) = (x.1 : Int)
        · by_cases c3 : (f.c.toNat : Int) = (ct : Int)
          · have HO3 : Hid (f.s = j.seq + 1 ∧ f.i.toNat = x.1 ∧ f.c.toNat = cntOf x.1 y.cnt f) := ⟨by omega, by omega, by rw [HCE.out]; omega⟩
            have e1 : ((f.s : Int) != (j.seq : Int) + 1) = false := by simp [c1]
            have e2 : ((f.i.toNat : Int) != (x.1 : Int)) = false := by simp [c2']
            have e3 : ((f.c.toNat : Int) != (ct : Int)) = false := by simp [c3]
            clear c1 c2' c3
            by_cases d1 : (x.1 : Int) < (ct : Int)
            · by_cases d2 : isDat j.nb f = true
              · have HD2 : Hid (isDat j.nb f = true) := d2
                have HR : Hid (nxS j.seq j.nb y x.1 f = .on ⟨ct, y.l ++ [(f.a, f.b)]⟩) := by show _ = _; rw [nxS_on HO3.out ⟨by rw [HCE.out]; omega, d2⟩, HCE.out]
                have HTOK : Hid True := trivial
                obtain ⟨i0, hi0, hz0, hz1, hz2⟩ := info_parts infos_wr
                have HI0 := Lib.hid hi0
                have HZ0 := Lib.hid hz0
                have HZ1 := Lib.hid hz1
                have HZ2 := Lib.hid hz2
                clear d2 hi0 hz0 hz1 hz2
                with_reducible refine (wideF_round _ lp).region 20 (by kernel_rfl) (by kernel_rfl) (by kernel_rfl) ?_
                simp only [List.take_succ_cons, List.take_zero, List.drop_succ_cons, List.drop_zero]
                iterate 20 (with_reducible refine wpStill_step (fun K hK => ?_); go_simp; with_reducible refine hK _ ?_; clear hK K)
                with_reducible refine wpStill_nil ?_
                change wpListIn _ _ _ _ _ _ _ (World.drew _)
                gi_wp2_with (first
                  | (refine ⟨trivial, ?_⟩
                     gi_at_call 51
                     refine (CallsIn.inRound lp (callsIn_wide.2 (isData_any HJd.out hnb f A2 n2 c2 HBS5.out.1))).mono ?_
                     rintro e w6 ⟨rfl, hw6⟩
                     rw [HD2.out]
                     have HW6 : Hid (Below w5.heap.size w5 w6) := (Below.refl _ _).drew.trans hw6
                     have b3'' : w6.cell? ⟨w.heap.size + 1 + 1, 0, none⟩ = some (.slice A y.l.length c) := by rw [cell_of_row _ _ _ _ _ _ ((HW6.out.block _ (by have := HK5.out.size; omega)).trans HC35.out)]; rfl
                     have b4'' : w6.cell? ⟨w.heap.size + 1 + 1 + 1, 0, none⟩ = some (.int .i64 (ct : Int)) := by rw [cell_of_row _ _ _ _ _ _ ((HW6.out.block _ (by have := HK5.out.size; omega)).trans HC5.out)]; rfl
                     have f4'' : w6.cell? ⟨w2.heap.size, 4, none⟩ = some (.int .u32 (f.a : Int)) := by rw [cell_of_row _ _ _ _ _ _ ((HW6.out.block _ (Array.getElem?_eq_some_iff.1 HG5.out).1).trans HG5.out)]; rfl
                     have f5'' : w6.cell? ⟨w2.heap.size, 5, none⟩ = some (.slice A2 n2 c2) := by rw [cell_of_row _ _ _ _ _ _ ((HW6.out.block _ (Array.getElem?_eq_some_iff.1 HG5.out).1).trans HG5.out)]; rfl
                     have r0'' : w6.cell? ⟨w.heap.size + 1, 0, none⟩ = some (.slice none 0 0) := by rw [cell_of_row _ _ _ _ _ _ ((HW6.out.block _ (by have := HK5.out.size; omega)).trans HX15.out)]; rfl
                     have r1'' : w6.frozen? ⟨w.heap.size + 1, 0, none⟩ = false := by simp [World.frozen?, (HW6.out.block _ (by have := HK5.out.size; omega)).trans HX15.out]
                     clear hw6 b3' b4' f0 f1 f2 f3 f4 f5 b0' q3)
                  | (refine Did.listIn rfl (by intro c h; cases h) (by intro c h; cases h) (did_build 37 _ rfl (wv f.a ⟨A2, n2, c2⟩).toArray (by kernel_rfl)) ?_)
                  | (refine Did.listIn rfl (by intro c h; cases h) (by intro c h; cases h) (did_buildSlice_one 35 37 (.tmp 64) rfl (wv f.a ⟨A2, n2, c2⟩).toArray rfl Try.underlying35 _ (infos_wr2 _ _) (by simp [wv]) (by simp [wv])) ?_
                     have HW7 : Hid (Below w6.heap.size w6 (w6.alloc (.cells (wv f.a ⟨A2, n2, c2⟩).toArray 37))) := (Below.refl _ _).alloc (Nat.le_refl _) _
                     have HN7 : Hid (∀ j u, (wv f.a ⟨A2, n2, c2⟩)[j]? = some u → (w6.alloc (.cells (wv f.a ⟨A2, n2, c2⟩).toArray 37)).cell? ((⟨w6.heap.size, 0, none⟩ : Addr).add j) = some u) := fun j u hu => World.news_of_block (heap_alloc_new w6 _) j u (by simpa using hu)
                     generalize w6.alloc (.cells (wv f.a ⟨A2, n2, c2⟩).toArray 37) = w7 at *)
                  | (gi_at_builtin
                     have HT := HTOK
                     refine wpListIn_append_own_at (w := w7) rfl (.tmp 58) (.tmp 65) 35 rfl W0.heap.size 37 i0 _ 2 32 Try.underlying35 HI0.out HZ0.out HZ1.out HZ2.out rfl (by omega) (.slice A y.l.length c) y.l.length (wcs y.l sl) rfl (HWR7 w7 (HW6.out.trans (HW7.out.mono HW6.out.size))).row ⟨w6.heap.size, 0, none⟩ 1 1 (wv f.a ⟨A2, n2, c2⟩) rfl (by simp [wv]) HN7.out (by simp [wv, Value.oneCell']) (by unfold maxLen; have := HYL.out; omega) (by have := HYL.out; omega) (by have := HW6.out.size; have := HW7.out.size; have := HK5.out.size; have := HKPs.out; omega) ?_
                     intro v' w8 hown' hgrow _ hat
                     obtain ⟨g', cap', rfl⟩ := ownsRow_succ hown'
                     have HR8 := Lib.hid ((HWR7 w7 (HW6.out.trans (HW7.out.mono HW6.out.size))).append (x := (f.a, f.b)) (s := ⟨A2, n2, c2⟩) hown' hgrow hat (HBS5.out.below (HW6.out.trans (HW7.out.mono HW6.out.size))) HCC2.out HOFF.out)
                     have HG8 := Lib.hid hgrow
                     have HC37 : Hid (w7.heap[w.heap.size + 1 + 1]? = some (.cells #[.slice A y.l.length c] 35 (0, 0))) := ((HW6.out.trans (HW7.out.mono HW6.out.size)).block _ (by have := HK5.out.size; omega)).trans HC35.out
                     have HC38 : Hid (w8.heap[w.heap.size + 1 + 1]? = some (.cells #[.slice A y.l.length c] 35 (0, 0))) := (hgrow.block _ (Array.getElem?_eq_some_iff.1 HC37.out).1 (fun e => HOB.out _ e.symm rfl)).trans HC37.out
                     have s3 : w8.cell? ⟨w.heap.size + 1 + 1, 0, none⟩ = some (.slice A y.l.length c) := by rw [cell_of_row _ _ _ _ _ _ HC38.out]; rfl
                     have s4 : w8.frozen? ⟨w.heap.size + 1 + 1, 0, none⟩ = false := by simp [World.frozen?, HC38.out]
                     clear hown' hgrow hat HTOK HT)            )
                have hb7 : Below w5.heap.size w5 w7 := HW6.out.trans (HW7.out.mono HW6.out.size)
                have h57 := hb7.size
                have hk5 := HK5.out.size
                have hkp := HKPs.out
                have hrow : ∀ k, (Value.slice A y.l.length c).ownBlock = some k → W0.heap.size ≤ k ∧ ∃ cur, w7.heap[k]? = some (.cells cur 37 (0, 0)) := fun k hk => by
                  rcases (HWR7 w7 hb7).row.2 with ⟨h0, _⟩ | ⟨g, cap, cur, h1, h2, h3, h4⟩
                  · rw [h0] at hk; cases hk
                  · rw [h1] at hk
                    obtain rfl : g = k := by simpa [Value.ownBlock] using hk
                    exact ⟨h2, cur, h3⟩
                have hk8 : Keep (fun k => k ≠ w.heap.size + 1 + 1) w8 (w8.setCell ⟨w.heap.size + 1 + 1, 0, none⟩ (.slice (some ⟨g', 0, none⟩) (y.l.length + 1) cap')) := (Keep.refl _ w8).setCell (p := ⟨w.heap.size + 1 + 1, 0, none⟩) (fun h => h rfl) _
                have hblk : ∀ k, k < W0.heap.size → k ≠ w.heap.size + 1 + 1 → k ≠ w.heap.size + 1 + 1 + 1 → (w8.setCell ⟨w.heap.size + 1 + 1, 0, none⟩ (.slice (some ⟨g', 0, none⟩) (y.l.length + 1) cap')).heap[k]? = W.heap[k]? := fun k h1 h2 h3 => by
                  rw [hk8.block k h2, HG8.out.block k (by omega) (fun e => by have := (hrow k e.symm).1; omega), hb7.block k (by omega)]
                  exact HK5.out.block k ⟨by omega, h3⟩
                have hsz : W.heap.size ≤ (w8.setCell ⟨w.heap.size + 1 + 1, 0, none⟩ (.slice (some ⟨g', 0, none⟩) (y.l.length + 1) cap')).heap.size := by
                  have h1 := HG8.out.size
                  have h2 := hk8.size
                  omega
                have hKeep : Keep (fun k => k < W0.heap.size ∧ k ≠ w.heap.size + 1 + 1 ∧ k ≠ w.heap.size + 1 + 1 + 1) W (w8.setCell ⟨w.heap.size + 1 + 1, 0, none⟩ (.slice (some ⟨g', 0, none⟩) (y.l.length + 1) cap')) :=
                  ⟨by rw [hk8.os, HG8.out.os, hb7.os, HK5.out.os], by rw [hk8.tape, HG8.out.tape, hb7.tape, HK5.out.tape], by rw [hk8.output, HG8.out.output, hb7.output, HK5.out.output], hsz, fun k hk => hblk k hk.1 hk.2.1 hk.2.2⟩
                have hplt : p < w.heap.size := HJ.out.plt
                refine ⟨?_, ⟨hKeep.mono fun k hk => by (rw [hk]; have := HS1.out; omega), World.cell?_of_block (a := ⟨p, 1, none⟩) (hblk p (by omega) (by omega) (by omega)), World.cell?_of_block (a := ⟨p, 4, none⟩) (hblk p (by omega) (by omega) (by omega))⟩, ?_⟩
                · refine HKF5.out.trans ⟨Nat.le_trans h57 (Nat.le_trans HG8.out.size hk8.size), fun k o hB hk ho => ?_⟩
                  have hkl := (Array.getElem?_eq_some_iff.1 hk).1
                  rw [hk8.block k (by omega), HG8.out.block k (by omega) (fun e => ?_), hb7.block k hkl]
                  · exact hk
                  · obtain ⟨_, cur, h1⟩ := hrow k e.symm
                    rw [hb7.block k hkl, hk] at h1
                    cases h1
                    cases ho
                · refine ⟨HKP.out.trans (hKeep.mono fun k hk => hk), ⟨ct, y.l ++ [(f.a, f.b)]⟩, some ⟨g', 0, none⟩, cap', sl ++ [⟨A2, n2, c2⟩], HNS.out _ HR.out, ?_, ?_, ?_⟩
                  · rw [hk8.block _ (by omega), HG8.out.block _ (by omega) (fun e => by have := (hrow _ e.symm).1; omega), hb7.block _ (by omega)]
                    exact HC5.out
                  · rw [setCell_eq_setRow _ _ _ _ _ _ _ HC38.out, setRow_heap _ _ _ _ _ _ HC38.out]
                    simp
                  · refine HR8.out.keep (fun k => k = w.heap.size + 1 + 1) (Keep.mono hk8 fun k hk => hk.2) (fun k hk cur e => ?_) (fun k hk o z e => ?_)
                    · subst hk
                      rw [HC38.out] at e
                      simp only [Option.some.injEq, Obj.cells.injEq] at e
                      exact absurd e.2.1 (by decide)
                    · subst hk
                      rw [cell_of_row _ _ _ _ _ _ HC38.out] at e
                      match o with
                      | 0 => simp at e
                      | n + 1 => simp at e
              · have HD2 : Hid (isDat j.nb f = false) := by show _ = _; simpa using d2
                have HR : Hid (nxS j.seq j.nb y x.1 f = .no) := nxS_no2 (fun h => d2 h.2) (fun h => by have := h.1; rw [HCE.out] at this; omega)
                have e5 : ((x.1 : Int) == (ct : Int)) = false := by simp; omega
                clear d2
                with_reducible refine (wideF_round _ lp).region 20 (by kernel_rfl) (by kernel_rfl) (by kernel_rfl) ?_
                simp only [List.take_succ_cons, List.take_zero, List.drop_succ_cons, List.drop_zero]
                iterate 20 (with_reducible refine wpStill_step (fun K hK => ?_); go_simp; with_reducible refine hK _ ?_; clear hK K)
                with_reducible refine wpStill_nil ?_
                change wpListIn _ _ _ _ _ _ _ (World.drew _)
                gi_wp2_with (first
                  | (refine ⟨trivial, ?_⟩
                     gi_at_call 51
                     refine (CallsIn.inRound lp (callsIn_wide.2 (isData_any HJd.out hnb f A2 n2 c2 HBS5.out.1))).mono ?_
                     rintro e w6 ⟨rfl, hw6⟩
                     rw [HD2.out]
                     have HW6 : Hid (Below w5.heap.size w5 w6) := (Below.refl _ _).drew.trans hw6
                     have b3'' : w6.cell? ⟨w.heap.size + 1 + 1, 0, none⟩ = some (.slice A y.l.length c) := by rw [cell_of_row _ _ _ _ _ _ ((HW6.out.block _ (by have := HK5.out.size; omega)).trans HC35.out)]; rfl
                     have b4'' : w6.cell? ⟨w.heap.size + 1 + 1 + 1, 0, none⟩ = some (.int .i64 (ct : Int)) := by rw [cell_of_row _ _ _ _ _ _ ((HW6.out.block _ (by have := HK5.out.size; omega)).trans HC5.out)]; rfl
                     have f4'' : w6.cell? ⟨w2.heap.size, 4, none⟩ = some (.int .u32 (f.a : Int)) := by rw [cell_of_row _ _ _ _ _ _ ((HW6.out.block _ (Array.getElem?_eq_some_iff.1 HG5.out).1).trans HG5.out)]; rfl
                     have f5'' : w6.cell? ⟨w2.heap.size, 5, none⟩ = some (.slice A2 n2 c2) := by rw [cell_of_row _ _ _ _ _ _ ((HW6.out.block _ (Array.getElem?_eq_some_iff.1 HG5.out).1).trans HG5.out)]; rfl
                     have r0'' : w6.cell? ⟨w.heap.size + 1, 0, none⟩ = some (.slice none 0 0) := by rw [cell_of_row _ _ _ _ _ _ ((HW6.out.block _ (by have := HK5.out.size; omega)).trans HX15.out)]; rfl
                     have r1'' : w6.frozen? ⟨w.heap.size + 1, 0, none⟩ = false := by simp [World.frozen?, (HW6.out.block _ (by have := HK5.out.size; omega)).trans HX15.out]
                     clear hw6 b3' b4' f0 f1 f2 f3 f4 f5 b0' q3)            )
                refine ⟨trivial, ?_⟩
                gi_wp2
                exact HNO.out _ (Keep.of_below HW6.out) HR.out
            · have n0 : decide ((x.1 : Int) < (ct : Int)) = false := by simpa using d1
              by_cases d3 : (x.1 : Int) = (ct : Int)
              · by_cases d4 : isEn f = true
                · have HD4 : Hid (isEn f = true) := d4
                  have HR : Hid (nxS j.seq j.nb y x.1 f = .all) := nxS_all HO3.out (fun h => by have := h.1; rw [HCE.out] at this; omega) ⟨by rw [HCE.out]; omega, d4⟩
                  have e5 : ((x.1 : Int) == (ct : Int)) = true := by simpa using d3
                  clear d4 d3
                  with_reducible refine (wideF_round _ lp).region 20 (by kernel_rfl) (by kernel_rfl) (by kernel_rfl) ?_
                  simp only [List.take_succ_cons, List.take_zero, List.drop_succ_cons, List.drop_zero]
                  iterate 20 (with_reducible refine wpStill_step (fun K hK => ?_); go_simp; with_reducible refine hK _ ?_; clear hK K)
                  with_reducible refine wpStill_nil ?_
                  change wpListIn _ _ _ _ _ _ _ (World.drew _)
                  gi_wp2
                  refine ⟨trivial, ?_⟩
                  gi_wp2_with (first
                    | (refine ⟨trivial, ?_⟩
                       gi_at_call 52
                       refine (CallsIn.inRound lp (callsIn_wide.2 (isEnd_any w5.drew f A2 n2 c2 HBS5.out.1))).mono ?_
                       rintro e w6 ⟨rfl, hw6⟩
                       rw [HD4.out]
                       have HW6 : Hid (Below w5.heap.size w5 w6) := (Below.refl _ _).drew.trans hw6
                       have b3'' : w6.cell? ⟨w.heap.size + 1 + 1, 0, none⟩ = some (.slice A y.l.length c) := by rw [cell_of_row _ _ _ _ _ _ ((HW6.out.block _ (by have := HK5.out.size; omega)).trans HC35.out)]; rfl
                       have b4'' : w6.cell? ⟨w.heap.size + 1 + 1 + 1, 0, none⟩ = some (.int .i64 (ct : Int)) := by rw [cell_of_row _ _ _ _ _ _ ((HW6.out.block _ (by have := HK5.out.size; omega)).trans HC5.out)]; rfl
                       have f4'' : w6.cell? ⟨w2.heap.size, 4, none⟩ = some (.int .u32 (f.a : Int)) := by rw [cell_of_row _ _ _ _ _ _ ((HW6.out.block _ (Array.getElem?_eq_some_iff.1 HG5.out).1).trans HG5.out)]; rfl
                       have f5'' : w6.cell? ⟨w2.heap.size, 5, none⟩ = some (.slice A2 n2 c2) := by rw [cell_of_row _ _ _ _ _ _ ((HW6.out.block _ (Array.getElem?_eq_some_iff.1 HG5.out).1).trans HG5.out)]; rfl
                       have r0'' : w6.cell? ⟨w.heap.size + 1, 0, none⟩ = some (.slice none 0 0) := by rw [cell_of_row _ _ _ _ _ _ ((HW6.out.block _ (by have := HK5.out.size; omega)).trans HX15.out)]; rfl
                       have r1'' : w6.frozen? ⟨w.heap.size + 1, 0, none⟩ = false := by simp [World.frozen?, (HW6.out.block _ (by have := HK5.out.size; omega)).trans HX15.out]
                       clear hw6 b3' b4' f0 f1 f2 f3 f4 f5 b0' q3)              )
                  exact HALL.out _ HW6.out HR.out
                · have HD4 : Hid (isEn f = false) := by show _ = _; simpa using d4
                  have HR : Hid (nxS j.seq j.nb y x.1 f = .no) := nxS_no2 (fun h => by have := h.1; rw [HCE.out] at this; omega) (fun h => d4 h.2)
                  have e5 : ((x.1 : Int) == (ct : Int)) = true := by simpa using d3
                  clear d4 d3
                  with_reducible refine (wideF_round _ lp).region 20 (by kernel_rfl) (by kernel_rfl) (by kernel_rfl) ?_
                  simp only [List.take_succ_cons, List.take_zero, List.drop_succ_cons, List.drop_zero]
                  iterate 20 (with_reducible refine wpStill_step (fun K hK => ?_); go_simp; with_reducible refine hK _ ?_; clear hK K)
                  with_reducible refine wpStill_nil ?_
                  change wpListIn _ _ _ _ _ _ _ (World.drew _)
                  gi_wp2
                  refine ⟨trivial, ?_⟩
                  gi_wp2_with (first
                    | (refine ⟨trivial, ?_⟩
                       gi_at_call 52
                       refine (CallsIn.inRound lp (callsIn_wide.2 (isEnd_any w5.drew f A2 n2 c2 HBS5.out.1))).mono ?_
                       rintro e w6 ⟨rfl, hw6⟩
                       rw [HD4.out]
                       have HW6 : Hid (Below w5.heap.size w5 w6) := (Below.refl _ _).drew.trans hw6
                       have b3'' : w6.cell? ⟨w.heap.size + 1 + 1, 0, none⟩ = some (.slice A y.l.length c) := by rw [cell_of_row _ _ _ _ _ _ ((HW6.out.block _ (by have := HK5.out.size; omega)).trans HC35.out)]; rfl
                       have b4'' : w6.cell? ⟨w.heap.size + 1 + 1 + 1, 0, none⟩ = some (.int .i64 (ct : Int)) := by rw [cell_of_row _ _ _ _ _ _ ((HW6.out.block _ (by have := HK5.out.size; omega)).trans HC5.out)]; rfl
                       have f4'' : w6.cell? ⟨w2.heap.size, 4, none⟩ = some (.int .u32 (f.a : Int)) := by rw [cell_of_row _ _ _ _ _ _ ((HW6.out.block _ (Array.getElem?_eq_some_iff.1 HG5.out).1).trans HG5.out)]; rfl
                       have f5'' : w6.cell? ⟨w2.heap.size, 5, none⟩ = some (.slice A2 n2 c2) := by rw [cell_of_row _ _ _ _ _ _ ((HW6.out.block _ (Array.getElem?_eq_some_iff.1 HG5.out).1).trans HG5.out)]; rfl
                       have r0'' : w6.cell? ⟨w.heap.size + 1, 0, none⟩ = some (.slice none 0 0) := by rw [cell_of_row _ _ _ _ _ _ ((HW6.out.block _ (by have := HK5.out.size; omega)).trans HX15.out)]; rfl
                       have r1'' : w6.frozen? ⟨w.heap.size + 1, 0, none⟩ = false := by simp [World.frozen?, (HW6.out.block _ (by have := HK5.out.size; omega)).trans HX15.out]
                       clear hw6 b3' b4' f0 f1 f2 f3 f4 f5 b0' q3)              )
                  exact HNO.out _ (Keep.of_below HW6.out) HR.out
              · have HR : Hid (nxS j.seq j.nb y x.1 f = .no) := nxS_no2 (fun h => by have := h.1; rw [HCE.out] at this; omega) (fun h => by have := h.1; rw [HCE.out] at this; omega)
                have e5 : ((x.1 : Int) == (ct : Int)) = false := by simpa using d3
                clear d3
                with_reducible refine (wideF_round _ lp).region 20 (by kernel_rfl) (by kernel_rfl) (by kernel_rfl) ?_
                simp only [List.take_succ_cons, List.take_zero, List.drop_succ_cons, List.drop_zero]
                iterate 20 (with_reducible refine wpStill_step (fun K hK => ?_); go_simp; with_reducible refine hK _ ?_; clear hK K)
                with_reducible refine wpStill_nil ?_
                change wpListIn _ _ _ _ _ _ _ (World.drew _)
                gi_wp2
                refine ⟨trivial, ?_⟩
                gi_wp2
                refine ⟨trivial, ?_⟩
                gi_wp2
                exact HNO.out _ (Keep.refl _ _).drew HR.out
          · have HR : Hid (nxS j.seq j.nb y x.1 f = .no) := nxS_no (fun h => c3 (by have := h.2.2; rw [HCE.out] at this; omega))
            with_reducible refine (wideF_round _ lp).region 20 (by kernel_rfl) (by kernel_rfl) (by kernel_rfl) ?_
            simp only [List.take_succ_cons, List.take_zero, List.drop_succ_cons, List.drop_zero]
            iterate 20 (with_reducible refine wpStill_step (fun K hK => ?_); go_simp; with_reducible refine hK _ ?_; clear hK K)
            with_reducible refine wpStill_nil ?_
            change wpListIn _ _ _ _ _ _ _ (World.drew _)
            gi_wp2
            exact HNO.out _ (Keep.refl _ _).drew HR.out
        · have HR : Hid (nxS j.seq j.nb y x.1 f = .no) := nxS_no (fun h => c2' (by have := h.2.1; omega))
          with_reducible refine (wideF_round _ lp).region 20 (by kernel_rfl) (by kernel_rfl) (by kernel_rfl) ?_
          simp only [List.take_succ_cons, List.take_zero, List.drop_succ_cons, List.drop_zero]
          iterate 20 (with_reducible refine wpStill_step (fun K hK => ?_); go_simp; with_reducible refine hK _ ?_; clear hK K)
          with_reducible refine wpStill_nil ?_
          change wpListIn _ _ _ _ _ _ _ (World.drew _)
          gi_wp2
          exact HNO.out _ (Keep.refl _ _).drew HR.out
      · have HR : Hid (nxS j.seq j.nb y x.1 f = .no) := nxS_no (fun h => c1 (by have := h.1; omega))
        with_reducible refine (wideF_round _ lp).region 20 (by kernel_rfl) (by kernel_rfl) (by kernel_rfl) ?_
        simp only [List.take_succ_cons, List.take_zero, List.drop_succ_cons, List.drop_zero]
        iterate 20 (with_reducible refine wpStill_step (fun K hK => ?_); go_simp; with_reducible refine hK _ ?_; clear hK K)
        with_reducible refine wpStill_nil ?_
        change wpListIn _ _ _ _ _ _ _ (World.drew _)
        gi_wp2
        exact HNO.out _ (Keep.refl _ _).drew HR.out
    · have hx0b : ((x.1 : Int) == 0) = false := by simpa using hx0
      have HCT : Hid (cntOf x.1 y.cnt f = y.cnt) := by show _ = _; unfold cntOf; rw [if_neg (by omega)]
      clear hx0
      gi_wp2_with (first
        | (refine ⟨trivial, ?_⟩
           gi_at_call 38
           refine (CallsIn.inRound lp (callsIn_wide.2 (frame_any HJW.out hs _))).mono ?_
           rintro e w2 ⟨A2, n2, c2, rfl, hb2, hc2, hn2, hw2⟩
           rw [HFM.out] at hb2 ⊢
           have HB2 := Lib.hid hb2
           have HCC2 := Lib.hid hc2
           have HN2 := Lib.hid hn2
           have HW2 := Lib.hid hw2
           clear hb2 hc2 hn2 hw2)
        | (refine wpListIn_alloc_any rfl 76 rfl _ zero_frame ?_
           intro w3 hb3 hs3 hw3
           have HB3' := Lib.hid hb3
           have HW3 := Lib.hid hw3
           clear hb3 hs3 hw3)
        | (refine wpListIn_store_any rfl 76 (.tmp 7) (.tmp 23) rfl w2.heap.size (fv f A2 n2 c2) rfl rfl 76 _ HB3'.out (fv_size _ _ _ _) rfl (fv_one _ _ _ _) ?_
           intro w4 hb4 hs4 hw4
           have HG4 := Lib.hid hb4
           have HW4 : Hid (Below W.heap.size W w4) := HW2.out.trans ((HW3.out.mono HW2.out.size).trans (Keep.below (hw4.mono fun k hk => by have := HW2.out.size; omega)))
           have HW42 : Hid (Below w2.heap.size w2 w4) := HW3.out.trans (Keep.below (hw4.mono fun k hk => by omega))
           have g2 : w4.cell? ⟨w2.heap.size, 2, none⟩ = some (.int .i64 (f.c.toNat : Int)) := by rw [cell_of_row _ _ _ _ _ _ hb4]; rfl
           have b4 : w4.cell? ⟨w.heap.size + 1 + 1 + 1, 0, none⟩ = some (.int .i64 (y.cnt : Int)) := by rw [cell_of_row _ _ _ _ _ _ ((HW4.out.block _ (by have := HWs.out; omega)).trans HC4.out)]; rfl
           have z4 : w4.frozen? ⟨w.heap.size + 1 + 1 + 1, 0, none⟩ = false := by simp [World.frozen?, (HW4.out.block _ (by have := HWs.out; omega)).trans HC4.out]
           clear hb4 hs4 hw4))
      have HC5 : Hid (w4.heap[w.heap.size + 1 + 1 + 1]? = some (.cells #[.int .i64 (cntOf x.1 y.cnt f : Int)] 3 (0, 0))) := by show _ = _; rw [HCT.out]; exact (HW4.out.block _ (by have := HWs.out; omega)).trans HC4.out
      obtain ⟨w5, hw5⟩ : ∃ w5, w4 = w5 := ⟨_, rfl⟩
      have HK45 : Hid (Keep (fun k => k ≠ w.heap.size + 1 + 1 + 1) w4 w5) := by rw [← hw5]; exact Keep.refl _ _
      rw [hw5] at HC5 ⊢
      clear g2 b4 z4 hw5
      have hws := HWs.out
      have hs6 := HS06.out
      have HK5 : Hid (Keep (fun k => k < W.heap.size ∧ k ≠ w.heap.size + 1 + 1 + 1) W w5) := ((Keep.of_below HW4.out).mono fun k hk => hk.1).trans (HK45.out.mono fun k hk => hk.2)
      have HG5 : Hid (w5.heap[w2.heap.size]? = some (.cells (fv f A2 n2 c2) 76 (0, 0))) := (HK45.out.block _ (by have := HW2.out.size; omega)).trans HG4.out
      have HBS5 : Hid (BS w5 A2 n2 f.b) := (HB2.out.below HW42.out).aside HK45.out fun ad e => by have := HN2.out ad e; omega
      have HWR5 : Hid (WR w5 W0.heap.size A c y.l sl) := (HWR.out.keep (fun _ => False) (Fr.of_below HW4.out) (fun _ h => h.elim) (fun _ h => h.elim)).keep (fun k => k = w.heap.size + 1 + 1 + 1) (Keep.mono HK45.out fun k hk => hk.2) (fun k hk cur e => by
          subst hk
          rw [HW4.out.block _ (by omega), HC4.out] at e
          simp only [Option.some.injEq, Obj.cells.injEq] at e
          exact absurd e.2.1 (by decide)) (fun k hk o z e => by
          subst hk
          rw [cell_of_row _ _ _ _ _ _ ((HW4.out.block _ (by omega)).trans HC4.out)] at e
          match o with
          | 0 => simp at e
          | n + 1 => simp at e)
      have HC35 : Hid (w5.heap[w.heap.size + 1 + 1]? = some (.cells #[.slice A y.l.length c] 35 (0, 0))) := (HK5.out.block _ ⟨by omega, by omega⟩).trans HC3.out
      have HX15 : Hid (w5.heap[w.heap.size + 1]? = some (.cells #[.slice none 0 0] 35 (0, 0))) := (HK5.out.block _ ⟨by omega, by omega⟩).trans HX1.out
      have HBw5 : Hid (Below w.heap.size w w5) := HBw.out.trans (Keep.below (HK5.out.mono fun k hk => ⟨by omega, by omega⟩))
      have HJ5 := Lib.hid (HJ.out.below HBw5.out)
      have HKW0 : Hid (Keep (fun k => k < W0.heap.size ∧ k ≠ w.heap.size + 1 ∧ k ≠ w.heap.size + 1 + 1 ∧ k ≠ w.heap.size + 1 + 1 + 1) W0 w5) := (HKP.out.mono fun k hk => ⟨hk.1, hk.2.2.1, hk.2.2.2⟩).trans (HK5.out.mono fun k hk => ⟨Nat.lt_of_lt_of_le hk.1 HKP.out.size, hk.2.2.2⟩)
      have HKF5 : Hid (KeepsFrom W0.heap.size W w5) := ⟨HK5.out.size, fun k o hB hk _ => (HK5.out.block k ⟨(Array.getElem?_eq_some_iff.1 hk).1, by omega⟩).trans hk⟩
      have HNO : Hid (∀ W', Keep (fun k => k < w5.heap.size) w5 W' → nxS j.seq j.nb y x.1 f = .no → KeepsFrom W0.heap.size W W' ∧ NxX w W0 j.seq j.nb (fmAt d.read j.log j.place) (.exit 0) (pre ++ [x]) W') := fun W' hk hn =>
        ⟨HKF5.out.trans ⟨hk.size, fun k o _ hk' _ => (hk.block k (Array.getElem?_eq_some_iff.1 hk').1).trans hk'⟩, HCP.out _ _ (HKW0.out.trans (hk.mono fun k hk' => Nat.lt_of_lt_of_le hk'.1 HKW0.out.size)) ⟨_, (hk.block _ (Array.getElem?_eq_some_iff.1 HX15.out).1).trans HX15.out⟩ rfl hn⟩
      have b0' : w5.cell? ⟨w.heap.size, 0, none⟩ = some (.pointer (some ⟨p, 0, none⟩)) := by rw [cell_of_row _ _ _ _ _ _ ((HK5.out.block _ ⟨by omega, by omega⟩).trans HX0.out)]; rfl
      have b3' : w5.cell? ⟨w.heap.size + 1 + 1, 0, none⟩ = some (.slice A y.l.length c) := by rw [cell_of_row _ _ _ _ _ _ HC35.out]; rfl
      have b4' : w5.cell? ⟨w.heap.size + 1 + 1 + 1, 0, none⟩ = some (.int .i64 (cntOf x.1 y.cnt f : Int)) := by rw [cell_of_row _ _ _ _ _ _ HC5.out]; rfl
      have f0 : w5.cell? ⟨w2.heap.size, 0, none⟩ = some (.int .i64 (f.k.toNat : Int)) := by rw [cell_of_row _ _ _ _ _ _ HG5.out]; rfl
      have f1 : w5.cell? ⟨w2.heap.size, 1, none⟩ = some (.int .i64 (f.i.toNat : Int)) := by rw [cell_of_row _ _ _ _ _ _ HG5.out]; rfl
      have f2 : w5.cell? ⟨w2.heap.size, 2, none⟩ = some (.int .i64 (f.c.toNat : Int)) := by rw [cell_of_row _ _ _ _ _ _ HG5.out]; rfl
      have f3 : w5.cell? ⟨w2.heap.size, 3, none⟩ = some (.int .u64 (f.s : Int)) := by rw [cell_of_row _ _ _ _ _ _ HG5.out]; rfl
      have f4 : w5.cell? ⟨w2.heap.size, 4, none⟩ = some (.int .u32 (f.a : Int)) := by rw [cell_of_row _ _ _ _ _ _ HG5.out]; rfl
      have f5 : w5.cell? ⟨w2.heap.size, 5, none⟩ = some (.slice A2 n2 c2) := by rw [cell_of_row _ _ _ _ _ _ HG5.out]; rfl
      obtain ⟨-, -, q3, -, -⟩ := HJ5.out.cell
      have hwq : IntKind.u64.wrap ((j.seq : Int) + 1) = (j.seq : Int) + 1 := by rw [IntKind.wrap_u64]; omega
      have HKPs : Hid (W0.heap.size ≤ W.heap.size) := HKP.out.size
      have HOBW : Hid (∀ k, (Value.slice A y.l.length c).ownBlock = some k → k < W.heap.size) := fun k hk => by
        rcases HWR.out.row.2 with ⟨h0, _⟩ | ⟨g, cap, cur, h1, h2, h3, h4⟩
        · rw [h0] at hk; cases hk
        · rw [h1] at hk
          obtain rfl : g = k := by simpa [Value.ownBlock] using hk
          exact (Array.getElem?_eq_some_iff.1 h3).1
      clear HC4 HC3 HWR HX0 HX1 HBw HJW HFM HB2 HW2 HB3' HW3 HG4 HW4 HW42 HK45
      generalize hct : cntOf x.1 y.cnt f = ct at *
      have HCE := Lib.hid hct
      clear hct
      have HJd : Hid (JD w5.drew p dp S D j d) := HJ5.out.below (Below.refl _ _).drew
      have HWR7 : ∀ w7, Below w5.heap.size w5 w7 → WR w7 W0.heap.size A c y.l sl := fun w7 hb => HWR5.out.keep (fun _ => False) (Fr.of_below hb) (fun _ h => h.elim) (fun _ h => h.elim)
      have HALL : Hid (∀ W6, Below w5.heap.size w5 W6 → nxS j.seq j.nb y x.1 f = .all → KeepsFrom W0.heap.size W (W6.setCell ⟨w.heap.size + 1, 0, none⟩ (.slice A y.l.length c)) ∧ NxX w W0 j.seq j.nb (fmAt d.read j.log j.place) .ret (pre ++ [x]) (W6.setCell ⟨w.heap.size + 1, 0, none⟩ (.slice A y.l.length c))) := fun W6 hb hn => by
        have hX : W6.heap[w.heap.size + 1]? = some (.cells #[.slice none 0 0] 35 (0, 0)) := (hb.block _ (Array.getElem?_eq_some_iff.1 HX15.out).1).trans HX15.out
        refine ⟨(HKF5.out.trans ⟨hb.size, fun k o _ hk _ => (hb.block k (Array.getElem?_eq_some_iff.1 hk).1).trans hk⟩).trans ((KeepsOthers.setCell _ _ _).from _), HCA.out _ _ A c sl ?_ ?_ ?_ rfl hn⟩
        · exact (HKW0.out.trans ((Keep.of_below hb).mono fun k hk => Nat.lt_of_lt_of_le hk.1 HKW0.out.size)).setCell (p := ⟨w.heap.size + 1, 0, none⟩) (fun h => h.2.1 rfl) _
        · rw [setCell_eq_setRow _ _ _ _ _ _ _ hX, setRow_heap _ _ _ _ _ _ hX]
          simp
        · refine (HWR7 W6 hb).keep (fun k => k = w.heap.size + 1) ((Fr.refl (fun k => k = w.heap.size + 1) W6).setCell (p := ⟨w.heap.size + 1, 0, none⟩) (fun h => h.2 rfl) _) (fun k hk cur e => ?_) (fun k hk o z e => ?_)
          · subst hk
            rw [hX] at e
            simp only [Option.some.injEq, Obj.cells.injEq] at e
            exact absurd e.2.1 (by decide)
          · subst hk
            rw [cell_of_row _ _ _ _ _ _ hX] at e
            match o with
            | 0 => simp at e
            | n + 1 => simp at e
      have HYL : Hid (y.l.length ≤ 200) := by
        show _ ≤ _
        have h1 := nxF_len _ _ _ _ _ _ HF1.out
        have h2 := HLEN.out
        simp only [List.length_nil] at h1
        omega
      have HOB : Hid (∀ k, (Value.slice A y.l.length c).ownBlock = some k → w.heap.size + 1 + 1 ≠ k) := fun k hk e => by
        subst e
        rcases HWR5.out.row.2 with ⟨h0, _⟩ | ⟨g, cap, cur, h1, h2, h3, h4⟩
        · rw [h0] at hk; cases hk
        · rw [h1] at hk
          obtain rfl : g = w.heap.size + 1 + 1 := by simpa [Value.ownBlock] using hk
          omega
      have HOFF : Hid (0 < n2 → ∀ ad, A2 = some ad → W0.heap.size ≤ ad.block ∧ (Value.slice A y.l.length c).ownBlock ≠ some ad.block) := fun h0 ad e => by
        have h1 := HN2.out ad e
        have h2 := HKPs.out
        refine ⟨by omega, fun e2 => ?_⟩
        have := HOBW.out _ e2
        omega
      have hca : IntKind.i64.wrap (f.a : Int) = (f.a : Int) := by rw [IntKind.wrap_i64]; have := HFA.out; omega
      by_cases c1 : (f.s : Int) = (j.seq : Int) + 1
      · by_cases c2' : (f.i.toNat : Int) = (x.1 : Int)
        · by_cases c3 : (f.c.toNat : Int) = (ct : Int)
          · have HO3 : Hid (f.s = j.seq + 1 ∧ f.i.toNat = x.1 ∧ f.c.toNat = cntOf x.1 y.cnt f) := ⟨by omega, by omega, by rw [HCE.out]; omega⟩
            have e1 : ((f.s : Int) != (j.seq : Int) + 1) = false := by simp [c1]
            have e2 : ((f.i.toNat : Int) != (x.1 : Int)) = false := by simp [c2']
            have e3 : ((f.c.toNat : Int) != (ct : Int)) = false := by simp [c3]
            clear c1 c2' c3
            by_cases d1 : (x.1 : Int) < (ct : Int)
            · by_cases d2 : isDat j.nb f = true
              · have HD2 : Hid (isDat j.nb f = true) := d2
                have HR : Hid (nxS j.seq j.nb y x.1 f = .on ⟨ct, y.l ++ [(f.a, f.b)]⟩) := by show _ = _; rw [nxS_on HO3.out ⟨by rw [HCE.out]; omega, d2⟩, HCE.out]
                have HTOK : Hid True := trivial
                obtain ⟨i0, hi0, hz0, hz1, hz2⟩ := info_parts infos_wr
                have HI0 := Lib.hid hi0
                have HZ0 := Lib.hid hz0
                have HZ1 := Lib.hid hz1
                have HZ2 := Lib.hid hz2
                clear d2 hi0 hz0 hz1 hz2
                with_reducible refine (wideF_round _ lp).region 20 (by kernel_rfl) (by kernel_rfl) (by kernel_rfl) ?_
                simp only [List.take_succ_cons, List.take_zero, List.drop_succ_cons, List.drop_zero]
                iterate 20 (with_reducible refine wpStill_step (fun K hK => ?_); go_simp; with_reducible refine hK _ ?_; clear hK K)
                with_reducible refine wpStill_nil ?_
                change wpListIn _ _ _ _ _ _ _ (World.drew _)
                gi_wp2_with (first
                  | (refine ⟨trivial, ?_⟩
                     gi_at_call 51
                     refine (CallsIn.inRound lp (callsIn_wide.2 (isData_any HJd.out hnb f A2 n2 c2 HBS5.out.1))).mono ?_
                     rintro e w6 ⟨rfl, hw6⟩
                     rw [HD2.out]
                     have HW6 : Hid (Below w5.heap.size w5 w6) := (Below.refl _ _).drew.trans hw6
                     have b3'' : w6.cell? ⟨w.heap.size + 1 + 1, 0, none⟩ = some (.slice A y.l.length c) := by rw [cell_of_row _ _ _ _ _ _ ((HW6.out.block _ (by have := HK5.out.size; omega)).trans HC35.out)]; rfl
                     have b4'' : w6.cell? ⟨w.heap.size + 1 + 1 + 1, 0, none⟩ = some (.int .i64 (ct : Int)) := by rw [cell_of_row _ _ _ _ _ _ ((HW6.out.block _ (by have := HK5.out.size; omega)).trans HC5.out)]; rfl
                     have f4'' : w6.cell? ⟨w2.heap.size, 4, none⟩ = some (.int .u32 (f.a : Int)) := by rw [cell_of_row _ _ _ _ _ _ ((HW6.out.block _ (Array.getElem?_eq_some_iff.1 HG5.out).1).trans HG5.out)]; rfl
                     have f5'' : w6.cell? ⟨w2.heap.size, 5, none⟩ = some (.slice A2 n2 c2) := by rw [cell_of_row _ _ _ _ _ _ ((HW6.out.block _ (Array.getElem?_eq_some_iff.1 HG5.out).1).trans HG5.out)]; rfl
                     have r0'' : w6.cell? ⟨w.heap.size + 1, 0, none⟩ = some (.slice none 0 0) := by rw [cell_of_row _ _ _ _ _ _ ((HW6.out.block _ (by have := HK5.out.size; omega)).trans HX15.out)]; rfl
                     have r1'' : w6.frozen? ⟨w.heap.size + 1, 0, none⟩ = false := by simp [World.frozen?, (HW6.out.block _ (by have := HK5.out.size; omega)).trans HX15.out]
                     clear hw6 b3' b4' f0 f1 f2 f3 f4 f5 b0' q3)
                  | (refine Did.listIn rfl (by intro c h; cases h) (by intro c h; cases h) (did_build 37 _ rfl (wv f.a ⟨A2, n2, c2⟩).toArray (by kernel_rfl)) ?_)
                  | (refine Did.listIn rfl (by intro c h; cases h) (by intro c h; cases h) (did_buildSlice_one 35 37 (.tmp 64) rfl (wv f.a ⟨A2, n2, c2⟩).toArray rfl Try.underlying35 _ (infos_wr2 _ _) (by simp [wv]) (by simp [wv])) ?_
                     have HW7 : Hid (Below w6.heap.size w6 (w6.alloc (.cells (wv f.a ⟨A2, n2, c2⟩).toArray 37))) := (Below.refl _ _).alloc (Nat.le_refl _) _
                     have HN7 : Hid (∀ j u, (wv f.a ⟨A2, n2, c2⟩)[j]? = some u → (w6.alloc (.cells (wv f.a ⟨A2, n2, c2⟩).toArray 37)).cell? ((⟨w6.heap.size, 0, none⟩ : Addr).add j) = some u) := fun j u hu => World.news_of_block (heap_alloc_new w6 _) j u (by simpa using hu)
                     generalize w6.alloc (.cells (wv f.a ⟨A2, n2, c2⟩).toArray 37) = w7 at *)
                  | (gi_at_builtin
                     have HT := HTOK
                     refine wpListIn_append_own_at (w := w7) rfl (.tmp 58) (.tmp 65) 35 rfl W0.heap.size 37 i0 _ 2 32 Try.underlying35 HI0.out HZ0.out HZ1.out HZ2.out rfl (by omega) (.slice A y.l.length c) y.l.length (wcs y.l sl) rfl (HWR7 w7 (HW6.out.trans (HW7.out.mono HW6.out.size))).row ⟨w6.heap.size, 0, none⟩ 1 1 (wv f.a ⟨A2, n2, c2⟩) rfl (by simp [wv]) HN7.out (by simp [wv, Value.oneCell']) (by unfold maxLen; have := HYL.out; omega) (by have := HYL.out; omega) (by have := HW6.out.size; have := HW7.out.size; have := HK5.out.size; have := HKPs.out; omega) ?_
                     intro v' w8 hown' hgrow _ hat
                     obtain ⟨g', cap', rfl⟩ := ownsRow_succ hown'
                     have HR8 := Lib.hid ((HWR7 w7 (HW6.out.trans (HW7.out.mono HW6.out.size))).append (x := (f.a, f.b)) (s := ⟨A2, n2, c2⟩) hown' hgrow hat (HBS5.out.below (HW6.out.trans (HW7.out.mono HW6.out.size))) HCC2.out HOFF.out)
                     have HG8 := Lib.hid hgrow
                     have HC37 : Hid (w7.heap[w.heap.size + 1 + 1]? = some (.cells #[.slice A y.l.length c] 35 (0, 0))) := ((HW6.out.trans (HW7.out.mono HW6.out.size)).block _ (by have := HK5.out.size; omega)).trans HC35.out
                     have HC38 : Hid (w8.heap[w.heap.size + 1 + 1]? = some (.cells #[.slice A y.l.length c] 35 (0, 0))) := (hgrow.block _ (Array.getElem?_eq_some_iff.1 HC37.out).1 (fun e => HOB.out _ e.symm rfl)).trans HC37.out
                     have s3 : w8.cell? ⟨w.heap.size + 1 + 1, 0, none⟩ = some (.slice A y.l.length c) := by rw [cell_of_row _ _ _ _ _ _ HC38.out]; rfl
                     have s4 : w8.frozen? ⟨w.heap.size + 1 + 1, 0, none⟩ = false := by simp [World.frozen?, HC38.out]
                     clear hown' hgrow hat HTOK HT)            )
                have hb7 : Below w5.heap.size w5 w7 := HW6.out.trans (HW7.out.mono HW6.out.size)
                have h57 := hb7.size
                have hk5 := HK5.out.size
                have hkp := HKPs.out
                have hrow : ∀ k, (Value.slice A y.l.length c).ownBlock = some k → W0.heap.size ≤ k ∧ ∃ cur, w7.heap[k]? = some (.cells cur 37 (0, 0)) := fun k hk => by
                  rcases (HWR7 w7 hb7).row.2 with ⟨h0, _⟩ | ⟨g, cap, cur, h1, h2, h3, h4⟩
                  · rw [h0] at hk; cases hk
                  · rw [h1] at hk
                    obtain rfl : g = k := by simpa [Value.ownBlock] using hk
                    exact ⟨h2, cur, h3⟩
                have hk8 : Keep (fun k => k ≠ w.heap.size + 1 + 1) w8 (w8.setCell ⟨w.heap.size + 1 + 1, 0, none⟩ (.slice (some ⟨g', 0, none⟩) (y.l.length + 1) cap')) := (Keep.refl _ w8).setCell (p := ⟨w.heap.size + 1 + 1, 0, none⟩) (fun h => h rfl) _
                have hblk : ∀ k, k < W0.heap.size → k ≠ w.heap.size + 1 + 1 → k ≠ w.heap.size + 1 + 1 + 1 → (w8.setCell ⟨w.heap.size + 1 + 1, 0, none⟩ (.slice (some ⟨g', 0, none⟩) (y.l.length + 1) cap')).heap[k]? = W.heap[k]? := fun k h1 h2 h3 => by
                  rw [hk8.block k h2, HG8.out.block k (by omega) (fun e => by have := (hrow k e.symm).1; omega), hb7.block k (by omega)]
                  exact HK5.out.block k ⟨by omega, h3⟩
                have hsz : W.heap.size ≤ (w8.setCell ⟨w.heap.size + 1 + 1, 0, none⟩ (.slice (some ⟨g', 0, none⟩) (y.l.length + 1) cap')).heap.size := by
                  have h1 := HG8.out.size
                  have h2 := hk8.size
                  omega
                have hKeep : Keep (fun k => k < W0.heap.size ∧ k ≠ w.heap.size + 1 + 1 ∧ k ≠ w.heap.size + 1 + 1 + 1) W (w8.setCell ⟨w.heap.size + 1 + 1, 0, none⟩ (.slice (some ⟨g', 0, none⟩) (y.l.length + 1) cap')) :=
                  ⟨by rw [hk8.os, HG8.out.os, hb7.os, HK5.out.os], by rw [hk8.tape, HG8.out.tape, hb7.tape, HK5.out.tape], by rw [hk8.output, HG8.out.output, hb7.output, HK5.out.output], hsz, fun k hk => hblk k hk.1 hk.2.1 hk.2.2⟩
                have hplt : p < w.heap.size := HJ.out.plt
                refine ⟨?_, ⟨hKeep.mono fun k hk => by (rw [hk]; have := HS1.out; omega), World.cell?_of_block (a := ⟨p, 1, none⟩) (hblk p (by omega) (by omega) (by omega)), World.cell?_of_block (a := ⟨p, 4, none⟩) (hblk p (by omega) (by omega) (by omega))⟩, ?_⟩
                · refine HKF5.out.trans ⟨Nat.le_trans h57 (Nat.le_trans HG8.out.size hk8.size), fun k o hB hk ho => ?_⟩
                  have hkl := (Array.getElem?_eq_some_iff.1 hk).1
                  rw [hk8.block k (by omega), HG8.out.block k (by omega) (fun e => ?_), hb7.block k hkl]
                  · exact hk
                  · obtain ⟨_, cur, h1⟩ := hrow k e.symm
                    rw [hb7.block k hkl, hk] at h1
                    cases h1
                    cases ho
                · refine ⟨HKP.out.trans (hKeep.mono fun k hk => hk), ⟨ct, y.l ++ [(f.a, f.b)]⟩, some ⟨g', 0, none⟩, cap', sl ++ [⟨A2, n2, c2⟩], HNS.out _ HR.out, ?_, ?_, ?_⟩
                  · rw [hk8.block _ (by omega), HG8.out.block _ (by omega) (fun e => by have := (hrow _ e.symm).1; omega), hb7.block _ (by omega)]
                    exact HC5.out
                  · rw [setCell_eq_setRow _ _ _ _ _ _ _ HC38.out, setRow_heap _ _ _ _ _ _ HC38.out]
                    simp
                  · refine HR8.out.keep (fun k => k = w.heap.size + 1 + 1) (Keep.mono hk8 fun k hk => hk.2) (fun k hk cur e => ?_) (fun k hk o z e => ?_)
                    · subst hk
                      rw [HC38.out] at e
                      simp only [Option.some.injEq, Obj.cells.injEq] at e
                      exact absurd e.2.1 (by decide)
                    · subst hk
                      rw [cell_of_row _ _ _ _ _ _ HC38.out] at e
                      match o with
                      | 0 => simp at e
                      | n + 1 => simp at e
              · have HD2 : Hid (isDat j.nb f = false) := by show _ = _; simpa using d2
                have HR : Hid (nxS j.seq j.nb y x.1 f = .no) := nxS_no2 (fun h => d2 h.2) (fun h => by have := h.1; rw [HCE.out] at this; omega)
                have e5 : ((x.1 : Int) == (ct : Int)) = false := by simp; omega
                clear d2
                with_reducible refine (wideF_round _ lp).region 20 (by kernel_rfl) (by kernel_rfl) (by kernel_rfl) ?_
                simp only [List.take_succ_cons, List.take_zero, List.drop_succ_cons, List.drop_zero]
                iterate 20 (with_reducible refine wpStill_step (fun K hK => ?_); go_simp; with_reducible refine hK _ ?_; clear hK K)
                with_reducible refine wpStill_nil ?_
                change wpListIn _ _ _ _ _ _ _ (World.drew _)
                gi_wp2_with (first
                  | (refine ⟨trivial, ?_⟩
                     gi_at_call 51
                     refine (CallsIn.inRound lp (callsIn_wide.2 (isData_any HJd.out hnb f A2 n2 c2 HBS5.out.1))).mono ?_
                     rintro e w6 ⟨rfl, hw6⟩
                     rw [HD2.out]
                     have HW6 : Hid (Below w5.heap.size w5 w6) := (Below.refl _ _).drew.trans hw6
                     have b3'' : w6.cell? ⟨w.heap.size + 1 + 1, 0, none⟩ = some (.slice A y.l.length c) := by rw [cell_of_row _ _ _ _ _ _ ((HW6.out.block _ (by have := HK5.out.size; omega)).trans HC35.out)]; rfl
                     have b4'' : w6.cell? ⟨w.heap.size + 1 + 1 + 1, 0, none⟩ = some (.int .i64 (ct : Int)) := by rw [cell_of_row _ _ _ _ _ _ ((HW6.out.block _ (by have := HK5.out.size; omega)).trans HC5.out)]; rfl
                     have f4'' : w6.cell? ⟨w2.heap.size, 4, none⟩ = some (.int .u32 (f.a : Int)) := by rw [cell_of_row _ _ _ _ _ _ ((HW6.out.block _ (Array.getElem?_eq_some_iff.1 HG5.out).1).trans HG5.out)]; rfl
                     have f5'' : w6.cell? ⟨w2.heap.size, 5, none⟩ = some (.slice A2 n2 c2) := by rw [cell_of_row _ _ _ _ _ _ ((HW6.out.block _ (Array.getElem?_eq_some_iff.1 HG5.out).1).trans HG5.out)]; rfl
                     have r0'' : w6.cell? ⟨w.heap.size + 1, 0, none⟩ = some (.slice none 0 0) := by rw [cell_of_row _ _ _ _ _ _ ((HW6.out.block _ (by have := HK5.out.size; omega)).trans HX15.out)]; rfl
                     have r1'' : w6.frozen? ⟨w.heap.size + 1, 0, none⟩ = false := by simp [World.frozen?, (HW6.out.block _ (by have := HK5.out.size; omega)).trans HX15.out]
                     clear hw6 b3' b4' f0 f1 f2 f3 f4 f5 b0' q3)            )
                refine ⟨trivial, ?_⟩
                gi_wp2
                exact HNO.out _ (Keep.of_below HW6.out) HR.out
            · have n0 : decide ((x.1 : Int) < (ct : Int)) = false := by simpa using d1
              by_cases d3 : (x.1 : Int) = (ct : Int)
              · by_cases d4 : isEn f = true
                · have HD4 : Hid (isEn f = true) := d4
                  have HR : Hid (nxS j.seq j.nb y x.1 f = .all) := nxS_all HO3.out (fun h => by have := h.1; rw [HCE.out] at this; omega) ⟨by rw [HCE.out]; omega, d4⟩
                  have e5 : ((x.1 : Int) == (ct : Int)) = true := by simpa using d3
                  clear d4 d3
                  with_reducible refine (wideF_round _ lp).region 20 (by kernel_rfl) (by kernel_rfl) (by kernel_rfl) ?_
                  simp only [List.take_succ_cons, List.take_zero, List.drop_succ_cons, List.drop_zero]
                  iterate 20 (with_reducible refine wpStill_step (fun K hK => ?_); go_simp; with_reducible refine hK _ ?_; clear hK K)
                  with_reducible refine wpStill_nil ?_
                  change wpListIn _ _ _ _ _ _ _ (World.drew _)
                  gi_wp2
                  refine ⟨trivial, ?_⟩
                  gi_wp2_with (first
                    | (refine ⟨trivial, ?_⟩
                       gi_at_call 52
                       refine (CallsIn.inRound lp (callsIn_wide.2 (isEnd_any w5.drew f A2 n2 c2 HBS5.out.1))).mono ?_
                       rintro e w6 ⟨rfl, hw6⟩
                       rw [HD4.out]
                       have HW6 : Hid (Below w5.heap.size w5 w6) := (Below.refl _ _).drew.trans hw6
                       have b3'' : w6.cell? ⟨w.heap.size + 1 + 1, 0, none⟩ = some (.slice A y.l.length c) := by rw [cell_of_row _ _ _ _ _ _ ((HW6.out.block _ (by have := HK5.out.size; omega)).trans HC35.out)]; rfl
                       have b4'' : w6.cell? ⟨w.heap.size + 1 + 1 + 1, 0, none⟩ = some (.int .i64 (ct : Int)) := by rw [cell_of_row _ _ _ _ _ _ ((HW6.out.block _ (by have := HK5.out.size; omega)).trans HC5.out)]; rfl
                       have f4'' : w6.cell? ⟨w2.heap.size, 4, none⟩ = some (.int .u32 (f.a : Int)) := by rw [cell_of_row _ _ _ _ _ _ ((HW6.out.block _ (Array.getElem?_eq_some_iff.1 HG5.out).1).trans HG5.out)]; rfl
                       have f5'' : w6.cell? ⟨w2.heap.size, 5, none⟩ = some (.slice A2 n2 c2) := by rw [cell_of_row _ _ _ _ _ _ ((HW6.out.block _ (Array.getElem?_eq_some_iff.1 HG5.out).1).trans HG5.out)]; rfl
                       have r0'' : w6.cell? ⟨w.heap.size + 1, 0, none⟩ = some (.slice none 0 0) := by rw [cell_of_row _ _ _ _ _ _ ((HW6.out.block _ (by have := HK5.out.size; omega)).trans HX15.out)]; rfl
                       have r1'' : w6.frozen? ⟨w.heap.size + 1, 0, none⟩ = false := by simp [World.frozen?, (HW6.out.block _ (by have := HK5.out.size; omega)).trans HX15.out]
                       clear hw6 b3' b4' f0 f1 f2 f3 f4 f5 b0' q3)              )
                  exact HALL.out _ HW6.out HR.out
                · have HD4 : Hid (isEn f = false) := by show _ = _; simpa using d4
                  have HR : Hid (nxS j.seq j.nb y x.1 f = .no) := nxS_no2 (fun h => by have := h.1; rw [HCE.out] at this; omega) (fun h => d4 h.2)
                  have e5 : ((x.1 : Int) == (ct : Int)) = true := by simpa using d3
                  clear d4 d3
                  with_reducible refine (wideF_round _ lp).region 20 (by kernel_rfl) (by kernel_rfl) (by kernel_rfl) ?_
                  simp only [List.take_succ_cons, List.take_zero, List.drop_succ_cons, List.drop_zero]
                  iterate 20 (with_reducible refine wpStill_step (fun K hK => ?_); go_simp; with_reducible refine hK _ ?_; clear hK K)
                  with_reducible refine wpStill_nil ?_
                  change wpListIn _ _ _ _ _ _ _ (World.drew _)
                  gi_wp2
                  refine ⟨trivial, ?_⟩
                  gi_wp2_with (first
                    | (refine ⟨trivial, ?_⟩
                       gi_at_call 52
                       refine (CallsIn.inRound lp (callsIn_wide.2 (isEnd_any w5.drew f A2 n2 c2 HBS5.out.1))).mono ?_
                       rintro e w6 ⟨rfl, hw6⟩
                       rw [HD4.out]
                       have HW6 : Hid (Below w5.heap.size w5 w6) := (Below.refl _ _).drew.trans hw6
                       have b3'' : w6.cell? ⟨w.heap.size + 1 + 1, 0, none⟩ = some (.slice A y.l.length c) := by rw [cell_of_row _ _ _ _ _ _ ((HW6.out.block _ (by have := HK5.out.size; omega)).trans HC35.out)]; rfl
                       have b4'' : w6.cell? ⟨w.heap.size + 1 + 1 + 1, 0, none⟩ = some (.int .i64 (ct : Int)) := by rw [cell_of_row _ _ _ _ _ _ ((HW6.out.block _ (by have := HK5.out.size; omega)).trans HC5.out)]; rfl
                       have f4'' : w6.cell? ⟨w2.heap.size, 4, none⟩ = some (.int .u32 (f.a : Int)) := by rw [cell_of_row _ _ _ _ _ _ ((HW6.out.block _ (Array.getElem?_eq_some_iff.1 HG5.out).1).trans HG5.out)]; rfl
                       have f5'' : w6.cell? ⟨w2.heap.size, 5, none⟩ = some (.slice A2 n2 c2) := by rw [cell_of_row _ _ _ _ _ _ ((HW6.out.block _ (Array.getElem?_eq_some_iff.1 HG5.out).1).trans HG5.out)]; rfl
                       have r0'' : w6.cell? ⟨w.heap.size + 1, 0, none⟩ = some (.slice none 0 0) := by rw [cell_of_row _ _ _ _ _ _ ((HW6.out.block _ (by have := HK5.out.size; omega)).trans HX15.out)]; rfl
                       have r1'' : w6.frozen? ⟨w.heap.size + 1, 0, none⟩ = false := by simp [World.frozen?, (HW6.out.block _ (by have := HK5.out.size; omega)).trans HX15.out]
                       clear hw6 b3' b4' f0 f1 f2 f3 f4 f5 b0' q3)              )
                  exact HNO.out _ (Keep.of_below HW6.out) HR.out
              · have HR : Hid (nxS j.seq j.nb y x.1 f = .no) := nxS_no2 (fun h => by have := h.1; rw [HCE.out] at this; omega) (fun h => by have := h.1; rw [HCE.out] at this; omega)
                have e5 : ((x.1 : Int) == (ct : Int)) = false := by simpa using d3
                clear d3
                with_reducible refine (wideF_round _ lp).region 20 (by kernel_rfl) (by kernel_rfl) (by kernel_rfl) ?_
                simp only [List.take_succ_cons, List.take_zero, List.drop_succ_cons, List.drop_zero]
                iterate 20 (with_reducible refine wpStill_step (fun K hK => ?_); go_simp; with_reducible refine hK _ ?_; clear hK K)
                with_reducible refine wpStill_nil ?_
                change wpListIn _ _ _ _ _ _ _ (World.drew _)
                gi_wp2
                refine ⟨trivial, ?_⟩
                gi_wp2
                refine ⟨trivial, ?_⟩
                gi_wp2
                exact HNO.out _ (Keep.refl _ _).drew HR.out
          · have HR : Hid (nxS j.seq j.nb y x.1 f = .no) := nxS_no (fun h => c3 (by have := h.2.2; rw [HCE.out] at this; omega))
            with_reducible refine (wideF_round _ lp).region 20 (by kernel_rfl) (by kernel_rfl) (by kernel_rfl) ?_
            simp only [List.take_succ_cons, List.take_zero, List.drop_succ_cons, List.drop_zero]
            iterate 20 (with_reducible refine wpStill_step (fun K hK => ?_); go_simp; with_reducible refine hK _ ?_; clear hK K)
            with_reducible refine wpStill_nil ?_
            change wpListIn _ _ _ _ _ _ _ (World.drew _)
            gi_wp2
            exact HNO.out _ (Keep.refl _ _).drew HR.out
        · have HR : Hid (nxS j.seq j.nb y x.1 f = .no) := nxS_no (fun h => c2' (by have := h.2.1; omega))
          with_reducible refine (wideF_round _ lp).region 20 (by kernel_rfl) (by kernel_rfl) (by kernel_rfl) ?_
          simp only [List.take_succ_cons, List.take_zero, List.drop_succ_cons, List.drop_zero]
          iterate 20 (with_reducible refine wpStill_step (fun K hK => ?_); go_simp; with_reducible refine hK _ ?_; clear hK K)
          with_reducible refine wpStill_nil ?_
          change wpListIn _ _ _ _ _ _ _ (World.drew _)
          gi_wp2
          exact HNO.out _ (Keep.refl _ _).drew HR.out
      · have HR : Hid (nxS j.seq j.nb y x.1 f = .no) := nxS_no (fun h => c1 (by have := h.1; omega))
        with_reducible refine (wideF_round _ lp).region 20 (by kernel_rfl) (by kernel_rfl) (by kernel_rfl) ?_
        simp only [List.take_succ_cons, List.take_zero, List.drop_succ_cons, List.drop_zero]
        iterate 20 (with_reducible refine wpStill_step (fun K hK => ?_); go_simp; with_reducible refine hK _ ?_; clear hK K)
        with_reducible refine wpStill_nil ?_
        change wpListIn _ _ _ _ _ _ _ (World.drew _)
        gi_wp2
        exact HNO.out _ (Keep.refl _ _).drew HR.out
  case stop =>
    rintro Dd cd pre W hDd ⟨m, hm, rfl⟩ hX hK
    obtain ⟨pre', x, y, h1, h2, h3⟩ := hX.st
    rw [fins_succ hm] at h1
    obtain ⟨rfl, hx⟩ := List.append_inj' h1 rfl
    obtain rfl : (⟨m, hm⟩ : Fin (j.log - j.used)) = x := by simpa using hx
    have HKP := Lib.hid hX.keep
    have HKD := Lib.hid hK
    have HDD := Lib.hid hDd
    have HF2 := Lib.hid h2
    clear hX h1 h2 hx hK hDd q1 q4
    rcases h3 with ⟨rfl, ha, A, cc, sl, h5, h6⟩ | ⟨rfl, hn, v, h5⟩
    · obtain ⟨e1, e2⟩ := chg_all hm HF2.out ha
      have HE1 := Lib.hid e1
      have HWR := Lib.hid h6
      have HB := Lib.hid h5
      clear e1 e2 ha h6 h5
      gi_wp2
      have hd6 := HDD.out
      have hs6 := HS06.out
      have hBl : Below w.heap.size w W := HBW0.out.trans (Keep.below (HKP.out.mono fun k hk => by omega))
      refine ⟨by simp, .inl ⟨_, _, rfl, run_takeDeferred HKD.out, ?_⟩⟩
      refine ⟨_, results_one rfl _ _ ⟨w.heap.size + 1, 0, none⟩ (.slice A y.l.length cc) rfl (by kernel_rfl) (by rw [cell_of_row _ _ _ _ _ _ (put_block HB.out (by omega))]; rfl), A, cc, by rw [HE1.out], ?_, ?_⟩
      · rw [HE1.out]
        have := (HWR.out.turn (B := W0.heap.size) (grownBy_putObj' W Dd (.deferred none)) (fun r e => by cases e; exact ⟨hd6, _, HKD.out, rfl⟩)).ws
        exact this.mono fun k hk => by omega
      · exact hBl.trans (belowK_b (w := w) (Nat.le_refl _) _ Dd _ _ (by omega) HKD.out rfl rfl)
    · have HCH : Hid (J.chg d.read j.log j.nb j.place (j.seq + 1) (j.log - j.used) = []) := chg_off (by omega) HF2.out (.inr ⟨hm, hn⟩)
      have HB := Lib.hid h5
      have r0 : W.cell? ⟨w.heap.size + 1, 0, none⟩ = some v := by rw [cell_of_row _ _ _ _ _ _ h5]; rfl
      have r1 : W.frozen? ⟨w.heap.size + 1, 0, none⟩ = false := by simp [World.frozen?, h5]
      clear hn h5
      gi_wp2
      have hd6 := HDD.out
      have hs6 := HS06.out
      have hB2 : (W.setCell ⟨w.heap.size + 1, 0, none⟩ (.slice none 0 0)).heap[w.heap.size + 1]? = some (.cells #[.slice none 0 0] 35 (0, 0)) := by
        rw [setCell_eq_setRow _ _ _ _ _ _ _ HB.out, setRow_heap _ _ _ _ _ _ HB.out]
        simp
      have hBl : Below w.heap.size w (W.setCell ⟨w.heap.size + 1, 0, none⟩ (.slice none 0 0)) := (HBW0.out.trans (Keep.below (HKP.out.mono fun k hk => by omega))).setCell (p := ⟨w.heap.size + 1, 0, none⟩) (by simp) _
      refine ⟨by simp, .inl ⟨_, _, rfl, run_takeDeferred ((KeepsOthers.setCell _ _ _).same Dd _ HKD.out rfl), ?_⟩⟩
      refine ⟨_, results_one rfl _ _ ⟨w.heap.size + 1, 0, none⟩ (.slice none 0 0) rfl (by kernel_rfl) (by rw [cell_of_row _ _ _ _ _ _ (put_block hB2 (by omega))]; rfl), none, 0, by rw [HCH.out]; rfl, by rw [HCH.out]; exact WS.nil, ?_⟩
      exact hBl.trans (belowK_b (w := w) (Nat.le_refl _) _ Dd _ _ (by omega) ((KeepsOthers.setCell _ _ _).same Dd _ HKD.out rfl) rfl rfl)
  case done =>
    rintro Dd ys W hDd rfl hI hK
    obtain ⟨y, A, c, sl, h1, h2, h3, h4⟩ := hI.st
    have HCH : Hid (J.chg d.read j.log j.nb j.place (j.seq + 1) (j.log - j.used) = []) := chg_off (Nat.le_refl _) h1 (.inl rfl)
    have HKP := Lib.hid hI.keep
    have HKD := Lib.hid hK
    have HDD := Lib.hid hDd
    have HBR : Hid (W.heap[w.heap.size + 1]? = some (.cells #[.slice none 0 0] 35 (0, 0))) := (hI.keep.block _ ⟨by have := HS0.out; omega, by omega, by omega⟩).trans ((HBL.out.block _ (by have := HS1.out; omega)).trans HB1.out)
    have r0 : W.cell? ⟨w.heap.size + 1, 0, none⟩ = some (.slice none 0 0) := by rw [cell_of_row _ _ _ _ _ _ HBR.out]; rfl
    have r1 : W.frozen? ⟨w.heap.size + 1, 0, none⟩ = false := by simp [World.frozen?, HBR.out]
    clear hI h1 h2 h3 h4 hK hDd q1 q4
    gi_wp2
    have hd6 := HDD.out
    have hs6 := HS06.out
    have hB2 : (W.setCell ⟨w.heap.size + 1, 0, none⟩ (.slice none 0 0)).heap[w.heap.size + 1]? = some (.cells #[.slice none 0 0] 35 (0, 0)) := by
      rw [setCell_eq_setRow _ _ _ _ _ _ _ HBR.out, setRow_heap _ _ _ _ _ _ HBR.out]
      simp
    have hBl : Below w.heap.size w (W.setCell ⟨w.heap.size + 1, 0, none⟩ (.slice none 0 0)) := (HBW0.out.trans (Keep.below (HKP.out.mono fun k hk => by omega))).setCell (p := ⟨w.heap.size + 1, 0, none⟩) (by simp) _
    refine ⟨by simp, .inl ⟨_, _, rfl, run_takeDeferred ((KeepsOthers.setCell _ _ _).same Dd _ HKD.out rfl), ?_⟩⟩
    refine ⟨_, results_one rfl _ _ ⟨w.heap.size + 1, 0, none⟩ (.slice none 0 0) rfl (by kernel_rfl) (by rw [cell_of_row _ _ _ _ _ _ (put_block hB2 (by omega))]; rfl), none, 0, by rw [HCH.out]; rfl, by rw [HCH.out]; exact WS.nil, ?_⟩
    exact hBl.trans (belowK_b (w := w) (Nat.le_refl _) _ Dd _ _ (by omega) ((KeepsOthers.setCell _ _ _).same Dd _ HKD.out rfl) rfl rfl)
end
end Go.Proofs.Ytcieahfhpanogaa
