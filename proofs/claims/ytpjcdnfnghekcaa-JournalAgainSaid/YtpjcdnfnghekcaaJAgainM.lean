/-
  For the law of a journal that is opened again: six texts in a block beside the journal; what stays from call to call.
-/
import Derived.Test.YtpjcdnfnghekcaaJTailI
namespace Go.Proofs.Ytpjcdnfnghekcaa
open Go.RowKit

/-- Six texts. -/
def six (f : Nat → List UInt8) : Array Value := #[.string (txt (f 0)), .string (txt (f 1)), .string (txt (f 2)), .string (txt (f 3)), .string (txt (f 4)), .string (txt (f 5))]
theorem six_get (f : Nat → List UInt8) {j : Nat} (h : j < 6) : (six f)[j]? = some (.string (txt (f j))) := by
  match j, h with
  | 0, _ => rfl
  | 1, _ => rfl
  | 2, _ => rfl
  | 3, _ => rfl
  | 4, _ => rfl
  | 5, _ => rfl
def upd (f : Nat → List UInt8) (k : Nat) (b : List UInt8) : Nat → List UInt8 := fun j => if j = k then b else f j
theorem six_set (f : Nat → List UInt8) {k : Nat} (h : k < 6) (b : List UInt8) : (six f).setIfInBounds k (.string (txt b)) = six (upd f k b) := by
  match k, h with
  | 0, _ => rfl
  | 1, _ => rfl
  | 2, _ => rfl
  | 3, _ => rfl
  | 4, _ => rfl
  | 5, _ => rfl
theorem infos_str : (Try.prog.info? 9).map (fun i => (i.zero, i.size, i.bytes)) = some (some (.string (txt [])), 1, 16) := by kernel_rfl
theorem six_new : (List.replicate 6 (Value.string (txt []))).toArray = six fun _ => [] := rfl
/-- The block g holds six texts. -/
def Six (W : World) (g : Nat) (f : Nat → List UInt8) : Prop := W.heap[g]? = some (.cells (six f) 9 (0, 0))
section
variable {W W' : World} {g : Nat} {f : Nat → List UInt8}
theorem Six.lt (h : Six W g f) : g < W.heap.size := (Array.getElem?_eq_some_iff.1 h).1
theorem Six.fr (h : Six W g f) {T : Nat → Prop} (hf : Fr T W W') (hT : ¬ T g) : Six W' g f := (hf.block g ⟨h.lt, hT⟩).trans h
theorem Six.below (h : Six W g f) (hb : Below W.heap.size W W') : Six W' g f := (hb.block g h.lt).trans h
theorem Six.cell (h : Six W g f) {i : Nat} (hi : i < 6) : W.cell? ⟨g, i, none⟩ = some (.string (txt (f i))) := by rw [cell_of_row _ _ _ _ _ _ h, six_get f hi]
theorem Six.frozen (h : Six W g f) (i : Nat) : W.frozen? ⟨g, i, none⟩ = false := by
  have h' : W.heap[g]? = some (.cells (six f) 9 (0, 0)) := h
  simp [World.frozen?, h']
theorem Six.set (h : Six W g f) {i : Nat} (hi : i < 6) (b : List UInt8) : Six (W.setCell ⟨g, i, none⟩ (.string (txt b))) g (upd f i b) ∧ Fr (fun k => k = g) W (W.setCell ⟨g, i, none⟩ (.string (txt b))) := by
  refine ⟨?_, (Fr.refl (fun k => k = g) W).setCell (p := ⟨g, i, none⟩) (fun h => h.2 rfl) _⟩
  unfold Six
  rw [setCell_eq_setRow _ _ _ _ _ _ _ h, setRow_heap _ _ _ _ _ _ h, six_set f hi]
end

/-- A journal of the law, and six texts beside it. -/
structure TG (w W : World) (p dp g : Nat) (S D : Nat → Prop) (j : J.JS) (d : DS) (s t : Nat) (c : List J.Chg) (f : Nat → List UInt8) : Prop where
  ts : TS w W p dp S D j d s t c
  row : Six W g f
  far : ¬ (S g ∨ D g)
  hg : w.heap.size ≤ g
/-- A journal of the law whose disk may have been crashed behind it, and six texts beside it. -/
structure CD (w W : World) (p dp g : Nat) (S D : Nat → Prop) (j : J.JS) (d : DS) (s t : Nat) (c : List J.Chg) (f : Nat → List UInt8) : Prop where
  jd : JD W p dp S D j d
  inv : J.Inv d 16 6 s t c j.B
  calm : J.Calm d
  n : d.n = 40
  used : j.used = J.size c
  seq : j.seq = s + c.length
  bel : Below w.heap.size w W
  hS : ∀ k, S k ∨ D k → w.heap.size ≤ k
  row : Six W g f
  far : ¬ (S g ∨ D g)
  hg : w.heap.size ≤ g
section
variable {w W W' : World} {p dp q g : Nat} {S D S' D' : Nat → Prop} {j j' : J.JS} {d d' : DS} {s t s' t' : Nat} {c c' : List J.Chg} {f : Nat → List UInt8}
theorem TG.below (h : TG w W p dp g S D j d s t c f) (hb : Below W.heap.size W W') : TG w W' p dp g S D j d s t c f := ⟨h.ts.below hb, h.row.below hb, h.far, h.hg⟩
theorem far_of (hr : Six W g f) (hf : ¬ (S g ∨ D g)) (hS : ∀ k, S' k → S k ∨ W.heap.size ≤ k) (hD : ∀ k, D' k → D k ∨ W.heap.size ≤ k) : ¬ (S' g ∨ D' g) := by
  have := hr.lt
  rintro (h | h)
  · rcases hS g h with h1 | h1
    · exact hf (.inl h1)
    · omega
  · rcases hD g h with h1 | h1
    · exact hf (.inr h1)
    · omega
theorem TG.step (h : TG w W p dp g S D j d s t c f) (hl : LStep W W' p dp S D j' d' s' t' c') (h1 : J.Calm d') (h2 : d'.n = d.n) (h3 : j'.log = j.log) (h4 : j'.nb = j.nb) : ∃ S' D', TG w W' p dp g S' D' j' d' s' t' c' f := by
  obtain ⟨S', D', k1, k2, k3, k4⟩ := hl
  refine ⟨S', D', ⟨k1, h1, h2.trans h.ts.n, h3.trans h.ts.log, h4.trans h.ts.nb, h.ts.bel.trans (k2.below h.ts.bel.size h.ts.hS), fun k hk => ?_⟩, h.row.fr k2 h.far, far_of h.row h.far k3 k4, h.hg⟩
  have := h.ts.bel.size
  rcases hk with hk | hk
  · rcases k3 k hk with h5 | h5
    · exact h.ts.hS k (.inl h5)
    · omega
  · rcases k4 k hk with h5 | h5
    · exact h.ts.hS k (.inr h5)
    · omega
theorem TG.set (h : TG w W p dp g S D j d s t c f) {i : Nat} (hi : i < 6) (b : List UInt8) : TG w (W.setCell ⟨g, i, none⟩ (.string (txt b))) p dp g S D j d s t c (upd f i b) := by
  obtain ⟨h1, h2⟩ := h.row.set hi b
  refine ⟨⟨h.ts.live.keep h2 (fun k hk e => h.far (.inl (e ▸ hk))) (fun k hk e => h.far (.inr (e ▸ hk))), h.ts.calm, h.ts.n, h.ts.log, h.ts.nb, h.ts.bel.setCell h.hg _, h.ts.hS⟩, h1, h.far, h.hg⟩
theorem TG.cd (h : TG w W p dp g S D j d s t c f) : CD w W p dp g S D j d s t c f := by
  have hi := h.ts.live.inv.inv
  rw [h.ts.log, h.ts.nb] at hi
  exact ⟨h.ts.live.jd, hi, h.ts.calm, h.ts.n, h.ts.live.inv.used, h.ts.live.seq, h.ts.bel, h.ts.hS, h.row, h.far, h.hg⟩
/-- A crash. -/
theorem TG.crash (h : TG w W p dp g S D j d s t c f) (hs : d.pend.length ≤ 1000000) :
    Calls Try.prog 15 #[.pointer (some ⟨dp, 0, none⟩), .slice none 0 0] W fun e W' => (∃ v : Int, e = .returned (.int .i64 v)) ∧ ∃ D', CD w W' p dp g S D' j (d.crashed []) s t c f := by
  refine (crash_all dp D d none 0 0 [] W h.ts.live.jd.dk hs BS.nil (fun h0 => absurd h0 (by omega)) (by unfold maxLen; omega)).mono ?_
  rintro e W' ⟨rfl, hst⟩
  obtain ⟨D', k1, k2, -, k4⟩ := h.ts.live.jd.disk hst
  have hi := h.ts.live.inv.inv
  rw [h.ts.log, h.ts.nb] at hi
  refine ⟨⟨_, rfl⟩, D', k1, J.Inv.crash (show 0 < 16 by omega) hi [], J.crashed_calm _ _, h.ts.n, h.ts.live.inv.used, h.ts.live.seq, h.ts.bel.trans (k2.below h.ts.bel.size h.ts.hS), fun k hk => ?_, h.row.fr k2 h.far, far_of h.row h.far (fun _ h => .inl h) k4, h.hg⟩
  rcases hk with hk | hk
  · exact h.ts.hS k (.inl hk)
  · exact (k4 k hk).elim (fun h' => h.ts.hS k (.inr h')) fun h' => Nat.le_trans h.ts.bel.size h'
/-- Open again. -/
theorem CD.open (h : CD w W p dp g S D j d s t c f) (hs : d.pend.length ≤ 800000) (hsq : j.seq + 1 < 18446744073709551616) :
    Calls Try.prog 11 #[.pointer (some ⟨dp, 0, none⟩), .int .i64 16, .int .i64 6] W fun e W' => ∃ q S' D' j' d', e = .returned (.tuple #[.pointer (some ⟨q, 0, none⟩), .int .i64 0]) ∧ TG w W' q dp g S' D' j' d' s t c f ∧ (∀ i, i < 6 → j'.B i = j.B i) ∧ d'.pend.length ≤ d.pend.length + 6 ∧ j'.seq = j.seq ∧ j'.used = j.used := by
  refine (open_live h.jd.dk (by omega) 16 6 (by omega) (by omega) (by omega) (by omega) (by rw [h.n]; omega) h.calm h.inv (by rw [← h.seq]; exact hsq)).mono ?_
  rintro e W' ⟨q, S9, D9, j9, d9, rfl, hl9, hc9, hn9, hlog9, hnb9, hB9, hp9, hf9, hS9, hD9⟩
  have hlt := h.row.lt
  refine ⟨q, S9, D9, j9, d9, rfl, ⟨⟨hl9, hc9, by rw [hn9]; exact h.n, hlog9, hnb9, h.bel.trans (hf9.below h.bel.size fun k hk => h.hS k (.inr hk)), fun k hk => ?_⟩, h.row.fr hf9 (fun h' => h.far (.inr h')), ?_, h.hg⟩, hB9, hp9, ?_, ?_⟩
  · rcases hk with hk | hk
    · exact Nat.le_trans h.bel.size (hS9 k hk)
    · exact (hD9 k hk).elim (fun h' => h.hS k (.inr h')) fun h' => Nat.le_trans h.bel.size h'
  · rintro (h' | h')
    · have := hS9 g h'; omega
    · rcases hD9 g h' with h1 | h1
      · exact h.far (.inr h1)
      · omega
  · rw [h.seq]; exact hl9.seq
  · rw [h.used]; exact hl9.inv.used
/-- Commit, all ways. -/
theorem TG.commit (h : TG w W p dp g S D j d s t c f) (hsq : j.seq + 1 < 18446744073709551616) (hs : d.pend.length ≤ 800000) (A : Option Addr) (n cp : Nat) (l : List (Int × List UInt8)) (hw : WS w (fun k => k < w.heap.size) A n l) (hn : n ≤ 20) :
    Calls Try.prog 14 #[.pointer (some ⟨p, 0, none⟩), .slice A n cp] W fun e W' => ∃ (r : Int) (S' D' : Nat → Prop) (j' : J.JS) (d' : DS) (s' t' : Nat) (c' : List J.Chg), e = .returned (.int .i64 r) ∧ TG w W' p dp g S' D' j' d' s' t' c' f ∧ d'.pend.length ≤ d.pend.length + 42 ∧ (r = 0 ∧ J.okW 6 l = true ∧ j'.seq = j.seq + 1 ∧ j'.B = J.apl (J.asChg l) j.B ∨ r ≠ 0 ∧ j'.seq = j.seq ∧ j'.B = j.B) := by
  have hl : l.length = n := hw.1
  have hw' := below_ws h.ts.bel hw
  cases hok : J.okW 6 l with
  | false =>
    refine (h.ts.live.commitNo hsq hs _ A n cp l hw' h.ts.off (by omega) (by rw [h.ts.nb]; exact hok)).mono ?_
    rintro e W' ⟨rfl, l1⟩
    obtain ⟨S', D', h'⟩ := h.step l1 h.ts.calm rfl rfl rfl
    exact ⟨1, S', D', j, d, s, t, c, rfl, h', by omega, .inr ⟨by decide, rfl, rfl⟩⟩
  | true =>
    have h6 : l.length ≤ 6 := okW_len hok
    refine (h.ts.live.commitOk h.ts.calm hsq hs _ A n cp l hw' h.ts.off (by omega) (by rw [h.ts.nb]; exact hok) (by rw [h.ts.log]; omega)).mono ?_
    rintro e W' ⟨rfl, j', d', s', t', c', l1, q1, q2, q3, q4, q5, q6, q7⟩
    obtain ⟨S', D', h'⟩ := h.step l1 q1 q2 q3 q4
    exact ⟨0, S', D', j', d', s', t', c', rfl, h', by omega, .inl ⟨rfl, rfl, q5, q6⟩⟩
/-- Checkpoint. -/
theorem TG.ckpt (h : TG w W p dp g S D j d s t c f) (hsq : j.seq < 18446744073709551616) (hs : d.pend.length ≤ 800000) :
    Calls Try.prog 17 #[.pointer (some ⟨p, 0, none⟩)] W fun e W' => e = .returned (.int .i64 0) ∧ ∃ (S' D' : Nat → Prop) (j' : J.JS) (d' : DS) (s' t' : Nat) (c' : List J.Chg), TG w W' p dp g S' D' j' d' s' t' c' f ∧ d'.pend.length ≤ d.pend.length + 1 ∧ j'.seq = j.seq ∧ j'.B = j.B := by
  refine (h.ts.live.ckptOk h.ts.calm hsq hs).mono ?_
  rintro e W' ⟨rfl, d', s', t', c', l1, q1, q2, q3⟩
  obtain ⟨S', D', h'⟩ := h.step l1 q1 q2 rfl rfl
  exact ⟨rfl, S', D', _, d', s', t', c', h', q3, rfl, rfl⟩
end
/-- What the law knows behind i rounds. -/
structure AgI (w W : World) (p dp g i cnt : Nat) (S D : Nat → Prop) (j : J.JS) (d : DS) (s t : Nat) (c : List J.Chg) (f : Nat → List UInt8) : Prop where
  tg : TG w W p dp g S D j d s t c f
  seq : j.seq = cnt
  cnt : cnt ≤ i
  pend : d.pend.length ≤ 6 + 50 * i
  B : ∀ k, k < 6 → j.B k = f k
theorem AgI.below {w W W' : World} {p dp g i cnt : Nat} {S D : Nat → Prop} {j : J.JS} {d : DS} {s t : Nat} {c : List J.Chg} {f : Nat → List UInt8} (h : AgI w W p dp g i cnt S D j d s t c f) (hb : Below W.heap.size W W') : AgI w W' p dp g i cnt S D j d s t c f := ⟨h.tg.below hb, h.seq, h.cnt, h.pend, h.B⟩
/-- A change of the law's argument, in whichever world it is looked at. -/
theorem ci_held {w : World} {A : Option Addr} {n : Nat} {ls : List (List (Int × List UInt8))} (h : CI w A n ls) (k : Nat) (hk : k < n) (hkl : k < ls.length) :
    ∃ b o x, A = some ⟨b, o, none⟩ ∧ WI w (Sl.a x) x.n ls[k] ∧ ∀ W, Below w.heap.size w W → W.cell? ⟨b, o + k, none⟩ = some (.slice x.a x.n x.c) := by
  obtain ⟨b, o, e, hX, hc⟩ := h.row (by omega)
  obtain ⟨x, g1, g2⟩ := hc k hkl
  exact ⟨b, o, x, e, g2, fun W hb => (hb.cell (p := ⟨b, o + k, none⟩) hX).trans g1⟩
end Go.Proofs.Ytpjcdnfnghekcaa
