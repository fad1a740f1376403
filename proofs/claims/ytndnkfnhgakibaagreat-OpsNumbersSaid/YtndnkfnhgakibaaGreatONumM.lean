/-
  What OpsNumbers' walk wants, plain (layer 13). Nothing of the program is named here.
-/
import Derived.Test.YtndnkfnhgakibaaGreatOFlatF
import Derived.Test.YtndnkfnhgakibaaGreatOKit
namespace Go.Proofs.YtndnkfnhgakibaaGreat
namespace Op
/-- The law's names. -/
def nmF (k : Nat) : List UInt8 := [102, nb k]
theorem nmF_ok {k : Nat} (h : k < 30) : nameOk (nmF k) = true := by
  have : ∀ k, k < 30 → nameOk (nmF k) = true := by decide
  exact this k h
theorem nmF_inj {i j : Nat} (hi : i < 100) (hj : j < 100) (h : nmF i = nmF j) : i = j := by
  unfold nmF at h
  exact nb_inj hi hj (by simpa using h)
theorem look_app {t u : TT} {x : En} {nm : List UInt8} (h : ents u 0 = ents t 0 ++ [x]) : look u 0 nm = (look t 0 nm).or (if x.nm == nm then some x else none) := by
  unfold look
  rw [h, List.find?_append]
  congr 1
  by_cases e : x.nm == nm
  · simp [e]
  · simp [e]
theorem look_gone {es : List En} {nm : List UInt8} {e : En} (ho : okB es = true) (h : es.find? (fun x => x.nm == nm) = some e) : (remL es nm).find? (fun x => x.nm == nm) = none := by
  obtain ⟨hn, a, b, h1, h2, _, ha⟩ := find_some h
  have h3 := ((okB_char es).1 ho).2.2
  rw [h1, List.map_append, List.map_cons, List.nodup_append] at h3
  obtain ⟨_, h4, h5⟩ := h3
  rw [List.nodup_cons] at h4
  rw [h2]
  refine List.find?_eq_none.2 fun x hx => ?_
  rcases List.mem_append.1 hx with hx | hx
  · simpa using ha x hx
  · have : x.nm ≠ nm := fun e1 => h4.1 (by rw [hn, ← e1]; exact List.mem_map_of_mem hx)
    simpa using this
theorem remL_len {es : List En} {nm : List UInt8} {e : En} (h : es.find? (fun x => x.nm == nm) = some e) : (remL es nm).length + 1 = es.length := by
  obtain ⟨_, a, b, h1, h2, _, _⟩ := find_some h
  rw [h2, h1, List.length_append, List.length_append, List.length_cons]
  omega
structure Nm (t : TT) (B m : Nat) : Prop where
  fl : Fl t B
  len : (ents t 0).length = m
  hi : m ≤ 23
  has : ∀ k, k < m → ∃ e, look t 0 (nmF k) = some e ∧ e.ino = k + 1
  up : ∀ k, k < m → (t.s (k + 1)).kind ≠ 0
  no : ∀ i, m < i → i < 24 → (t.s i).kind = 0 ∧ (t.s i).gen = 0
  abs : ∀ k, m ≤ k → k < 30 → look t 0 (nmF k) = none
section
variable {t : TT} {B m : Nat}
theorem nm_zero : Nm (format 60) 0 0 := by
  have hk : ∀ i, i ≠ 0 → formatS i = ⟨i, 0, 0, 0, 0, 0, 0, 0, []⟩ := fun i hi => if_neg hi
  refine ⟨⟨Sound.format, by decide, by decide, fun i hi => ?_, fun i h1 hi => ?_, fun i h1 hi => ?_, by decide, fun e he => ?_⟩, by decide, by omega, fun k hk => by omega, fun k hk => by omega, fun i h1 hi => ?_, fun k _ _ => ?_⟩
  · show (formatS i).gen ≤ 1
    by_cases e : i = 0
    · rw [e]; decide
    · rw [hk i e]; show 0 ≤ 1; omega
  · left
    show (formatS i).kind = 0
    rw [hk i (by omega)]
  · show (formatS i).dt = []
    rw [hk i (by omega)]
  · cases he
  · show (formatS i).kind = 0 ∧ (formatS i).gen = 0
    rw [hk i (by omega)]
    exact ⟨rfl, rfl⟩
  · rfl
/-- One more file. -/
theorem Nm.more (h : Nm t B m) (hm : m < 23) (hB : B ≤ 900) : ∃ y, step t (crC (nmF m) 0) = y ∧ y.2.st = 0 ∧ y.2.ati = m + 1 ∧ y.2.atg = 1 ∧ Nm y.1 (B + 1) (m + 1) := by
  have hlo : lowest t = some (m + 1) := lowest_eq (by omega) (h.no (m + 1) (by omega) (by omega)).1 fun i hi => by
    by_cases e : i = 0
    · rw [e, h.fl.kind0.1]; decide
    · have := h.up (i - 1) (by omega)
      rw [show i - 1 + 1 = i by omega] at this
      exact this
  obtain ⟨y, hy, hma, hfl⟩ := h.fl.create (n := 0) (nm := nmF m) (.inl rfl) (nmF_ok (by omega)) (by show 2 ≤ 4; omega) (h.abs m (Nat.le_refl _) (by omega)) hlo (by rw [h.len]; omega) (by omega)
  have hen : ents y.1 0 = ents t 0 ++ [⟨(t.s 0).cookie + 1, m + 1, ((t.s (m + 1)).gen + 1) % 4294967296, nmF m⟩] := hma.en
  refine ⟨y, hy, hma.st, hma.ati, ?_, hfl, ?_, by omega, fun k hk => ?_, fun k hk => ?_, fun i h1 hi => ?_, fun k h1 hk => ?_⟩
  · rw [hma.atg, (h.no (m + 1) (by omega) (by omega)).2]
  · rw [hen, List.length_append, h.len]; rfl
  · rw [look_app hen]
    by_cases e : k = m
    · rw [e, h.abs m (Nat.le_refl _) (by omega)]
      exact ⟨⟨(t.s 0).cookie + 1, m + 1, ((t.s (m + 1)).gen + 1) % 4294967296, nmF m⟩, by simp, rfl⟩
    · obtain ⟨x, hx, hi⟩ := h.has k (by omega)
      rw [hx]
      exact ⟨x, rfl, hi⟩
  · by_cases e : k = m
    · rw [e, show y.1.s (m + 1) = _ from hma.sk]; show 1 ≠ 0; omega
    · rw [hma.so (k + 1) (by omega) (by show k + 1 ≠ 0; omega)]
      exact h.up k (by omega)
  · rw [hma.so i (by omega) (by show i ≠ 0; omega)]
    exact h.no i (by omega) hi
  · rw [look_app hen, h.abs k (by omega) hk]
    have : nmF m ≠ nmF k := fun e => by have := nmF_inj (by omega) (by omega) e; omega
    simp [this]
theorem Nm.mono {B' : Nat} (h : Nm t B m) (hB : B ≤ B') : Nm t B' m := ⟨⟨h.fl.snd, h.fl.root, Nat.le_trans h.fl.ck hB, fun i hi => by have := h.fl.gen i hi; omega, h.fl.file, h.fl.dts, h.fl.rm, h.fl.few⟩, h.len, h.hi, h.has, h.up, h.no, h.abs⟩
theorem crC_wide {nm : List UInt8} {n : Nat} (h : n < 4294967296) : (crC nm n).Wide := by
  constructor <;> first | exact h | (show (0 : Nat) < _; omega) | (show (1 : Nat) < _; omega) | (show (6 : Nat) < _; omega)
/-- No number is left. -/
theorem Nm.full (h : Nm t B 23) {k : Nat} (h1 : 23 ≤ k) (hk : k < 30) : (step t (crC (nmF k) 0)).2.st = 66 := by
  have hlo : lowest t = none := by
    cases hl : lowest t with
    | none => rfl
    | some j =>
      obtain ⟨h1, h2, _⟩ := lowest_some hl
      by_cases e : j = 0
      · rw [e, h.fl.kind0.1] at h2; cases h2
      · have := h.up (j - 1) (by omega)
        rw [show j - 1 + 1 = j by omega] at this
        exact absurd h2 this
  have hcr : create t (crC (nmF k) 0) = .error 66 := by
    unfold create
    rw [show folderE t (crC (nmF k) 0).ati (crC (nmF k) 0).atg = 0 from h.fl.root, if_neg (by decide), show nameOk (crC (nmF k) 0).nm = true from nmF_ok hk, if_neg (by decide), if_neg (by show ¬ 2 < 0; omega), show look t (crC (nmF k) 0).ati (crC (nmF k) 0).nm = none from h.abs k h1 hk]
    simp only
    unfold fresh
    rw [hlo]
  rw [step_no (by rw [run_create (t := t) (c := crC (nmF k) 0) rfl]; exact hcr)]
/-- One is removed, and made again. -/
theorem Nm.again (h : Nm t B m) (hB : B ≤ 900) {k : Nat} (hk : k < m) :
    (step t (cl 1 0 1 (nmF k))).2.ati = k + 1 ∧ (step t (cl 1 0 1 (nmF k))).2.atg = (t.s (k + 1)).gen ∧ (t.s (k + 1)).gen ≤ 1000 ∧
    ∃ y, step t (cl 10 0 1 (nmF k)) = y ∧ y.2.st = 0 ∧ Sound y.1 ∧ ∃ z, step y.1 (crC (nmF k) 0) = z ∧ z.2.st = 0 ∧ z.2.ati = k + 1 ∧ z.2.atg = (t.s (k + 1)).gen + 1 ∧ Nm z.1 (B + 1) m := by
  have hm := h.hi
  obtain ⟨e, he, hei⟩ := h.has k hk
  have hno : nameOk (nmF k) = true := nmF_ok (by omega)
  have hlv := h.fl.live (List.mem_of_find?_eq_some he)
  have hth : thingE t e.ino e.gen = 0 := by
    unfold thingE
    rw [if_pos ⟨by omega, by rw [hlv.2.2.1]; decide, hlv.2.2.2.2⟩]
  have hgl := h.fl.gen (k + 1) (by omega)
  have hlk : runK t (cl 1 0 1 (nmF k)) = .ok (t, told t (rep0 (cl 1 0 1 (nmF k))) e.ino) := by
    show lookup t (cl 1 0 1 (nmF k)) = _
    unfold lookup
    rw [show folderE t (cl 1 0 1 (nmF k)).ati (cl 1 0 1 (nmF k)).atg = 0 from h.fl.root, if_neg (by decide), show nameOk (cl 1 0 1 (nmF k)).nm = true from hno, if_neg (by decide), show look t (cl 1 0 1 (nmF k)).ati (cl 1 0 1 (nmF k)).nm = some e from he]
    simp only
    rw [hth, if_neg (by decide)]
  obtain ⟨y, hy, hgo, hfy, hky, hgy⟩ := h.fl.remove hno he
  rw [hei] at hky hgy
  have hso : ∀ i, i ≠ k + 1 → i ≠ 0 → y.1.s i = t.s i := fun i h1 h2 => hgo.so i (by rw [hei]; exact h1) h2
  have hok := (ents_ok (h.fl.snd.inv.may.ok 0 (by omega)) h.fl.kind0.1).1
  have hey : ents y.1 0 = remL (ents t 0) (nmF k) := hgo.en
  have hny : look y.1 0 (nmF k) = none := by unfold look; rw [hey]; exact look_gone hok he
  have hloy : lowest y.1 = some (k + 1) := lowest_eq (by omega) hky fun i hi => by
    by_cases e0 : i = 0
    · rw [e0, hfy.kind0.1]; decide
    · rw [hso i (by omega) e0]
      have := h.up (i - 1) (by omega)
      rw [show i - 1 + 1 = i by omega] at this
      exact this
  have hlen : (ents y.1 0).length + 1 = m := by rw [hey, remL_len he, h.len]
  obtain ⟨z, hz, hma, hfz⟩ := hfy.create (n := 0) (nm := nmF k) (.inl rfl) hno (by show 2 ≤ 4; omega) hny hloy (by omega) (by omega)
  have hez : ents z.1 0 = ents y.1 0 ++ [⟨(y.1.s 0).cookie + 1, k + 1, ((y.1.s (k + 1)).gen + 1) % 4294967296, nmF k⟩] := hma.en
  have hsz : ∀ i, i ≠ k + 1 → i ≠ 0 → z.1.s i = t.s i := fun i h1 h2 => by rw [hma.so i h1 h2]; exact hso i h1 h2
  refine ⟨?_, ?_, by omega, y, hy, hgo.st, hfy.snd, z, hz, hma.st, hma.ati, ?_, hfz, ?_, hm, fun j hj => ?_, fun j hj => ?_, fun i h1 hi => ?_, fun j h1 hj => ?_⟩
  · rw [step_ok hlk]
    show (t.s e.ino).ino = _
    rw [h.fl.snd.inv.may.ino _ hlv.2.1, hei]
  · rw [step_ok hlk]
    show (t.s e.ino).gen = _
    rw [hei]
  · rw [hma.atg, hgy]
    omega
  · rw [hez, List.length_append]; exact hlen
  · rw [look_app hez]
    by_cases ej : j = k
    · rw [ej, hny]
      exact ⟨⟨(y.1.s 0).cookie + 1, k + 1, ((y.1.s (k + 1)).gen + 1) % 4294967296, nmF k⟩, by simp, rfl⟩
    · obtain ⟨x, hx, hi⟩ := h.has j hj
      have hne : nmF j ≠ nmF k := fun e => ej (nmF_inj (by omega) (by omega) e)
      have : look y.1 0 (nmF j) = some x := by unfold look; rw [hey]; exact find_rem hx he hne
      rw [this]
      exact ⟨x, rfl, hi⟩
  · by_cases ej : j = k
    · rw [ej, show z.1.s (k + 1) = _ from hma.sk]; show 1 ≠ 0; omega
    · rw [hsz (j + 1) (by omega) (by omega)]
      exact h.up j hj
  · rw [hsz i (by omega) (by omega)]
    exact h.no i h1 hi
  · have hne : nmF k ≠ nmF j := fun e => by have := nmF_inj (by omega) (by omega) e; omega
    have hy0 : look y.1 0 (nmF j) = none := by
      unfold look
      rw [hey]
      refine List.find?_eq_none.2 fun x hx => ?_
      obtain ⟨_, a, b, h1', h2', _, _⟩ := find_some he
      rw [h2'] at hx
      have : x ∈ ents t 0 := by
        rw [h1']
        rcases List.mem_append.1 hx with h | h
        · exact List.mem_append_left _ h
        · exact List.mem_append_right _ (List.mem_cons_of_mem _ h)
      exact List.find?_eq_none.1 (h.abs j h1 hj) x this
    rw [look_app hez, hy0]
    simp [hne]
end
end Op
end Go.Proofs.YtndnkfnhgakibaaGreat
