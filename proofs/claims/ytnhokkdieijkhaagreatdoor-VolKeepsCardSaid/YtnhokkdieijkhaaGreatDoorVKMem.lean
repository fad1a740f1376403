/-
  A row of twenty-four slots in a block of the call's own (layer 12: VolKeeps).
-/
import Derived.Test.YtnhokkdieijkhaaGreatDoorVOnceM
namespace Go.Proofs.YtnhokkdieijkhaaGreatDoor
open Go.RowKit Go.Shelf

/-- The cells of so many slots. -/
def kro (N : Nat → Vl.Th) (sl : Nat → Sl) : Nat → List Value
  | 0 => []
  | k + 1 => kro N sl k ++ sc (N k) (sl k).v
theorem kro_len (N : Nat → Vl.Th) (sl : Nat → Sl) : ∀ k, (kro N sl k).length = k * 9
  | 0 => rfl
  | k + 1 => by
    simp only [kro, List.length_append, kro_len N sl k, sc_len]
    omega
theorem kro_get (N : Nat → Vl.Th) (sl : Nat → Sl) (i j : Nat) (hj : j < 9) : ∀ k, i < k → (kro N sl k)[i * 9 + j]? = (sc (N i) (sl i).v)[j]?
  | 0, h => by omega
  | k + 1, h => by
    simp only [kro]
    by_cases e : i = k
    · subst e
      rw [List.getElem?_append_right (by rw [kro_len]; omega), kro_len, show i * 9 + j - i * 9 = j by omega]
    · rw [List.getElem?_append_left (by rw [kro_len]; omega)]
      exact kro_get N sl i j hj k (by omega)
theorem kro_congr {N M : Nat → Vl.Th} {sl sm : Nat → Sl} : ∀ k, (∀ i, i < k → N i = M i ∧ sl i = sm i) → kro N sl k = kro M sm k
  | 0, _ => rfl
  | k + 1, h => by
    simp only [kro, kro_congr k fun i hi => h i (by omega), (h k (by omega)).1, (h k (by omega)).2]
theorem kro_put (N : Nat → Vl.Th) (sl : Nat → Sl) (i : Nat) (x : Vl.Th) (s : Sl) : ∀ k, i < k → (kro N sl k).take (i * 9) ++ sc x s.v ++ (kro N sl k).drop (i * 9 + 9) = kro (Vl.upd N i x) (Vl.upd sl i s) k
  | 0, h => by omega
  | k + 1, h => by
    have hl := kro_len N sl k
    simp only [kro]
    by_cases e : i = k
    · subst e
      rw [List.take_append_of_le_length (by omega), List.take_of_length_le (by omega), List.drop_eq_nil_of_le (by rw [List.length_append, hl, sc_len]; omega), List.append_nil, Vl.upd_same, Vl.upd_same]
      congr 1
      exact kro_congr i fun j hj => ⟨(Vl.upd_other _ _ (by omega)).symm, (Vl.upd_other _ _ (by omega)).symm⟩
    · rw [List.take_append_of_le_length (by omega), List.drop_append_of_le_length (by omega), ← List.append_assoc, kro_put N sl i x s k (by omega), Vl.upd_other _ _ (by omega), Vl.upd_other _ _ (by omega)]
/-- The block g is a row of the slots N, whose bytes lie where sl says. -/
structure KR (w : World) (g : Nat) (N : Nat → Vl.Th) (sl : Nat → Sl) : Prop where
  row : Bw w g (kro N sl 24) 32
  bs : ∀ i, i < 24 → BS w (sl i).a (sl i).n (N i).dt ∧ (sl i).n ≤ (sl i).c
section
variable {w w' : World} {g : Nat} {N M : Nat → Vl.Th} {sl : Nat → Sl}
theorem KR.congr (h : KR w g N sl) (e : ∀ i, i < 24 → N i = M i) : KR w g M sl :=
  ⟨by rw [← kro_congr 24 fun i hi => ⟨e i hi, rfl⟩]; exact h.row, fun i hi => by rw [← e i hi]; exact h.bs i hi⟩
theorem KR.below (h : KR w g N sl) (hb : Below w.heap.size w w') : KR w' g N sl := ⟨h.row.below hb, fun i hi => ⟨(h.bs i hi).1.below hb, (h.bs i hi).2⟩⟩
theorem KR.ch {Q : Nat → Prop} (h : KR w g N sl) (hc : Ch Q w w') : KR w' g N sl := ⟨h.row.ch hc (by decide), fun i hi => ⟨(h.bs i hi).1.ch hc, (h.bs i hi).2⟩⟩
theorem KR.cells (h : KR w g N sl) {i : Nat} (hi : i < 24) : ∀ j u, (sc (N i) (sl i).v)[j]? = some u → w.cell? ⟨g, i * 9 + j, none⟩ = some u := fun j u hu => by
  have hj : j < 9 := by have := (List.getElem?_eq_some_iff.1 hu).1; rwa [sc_len] at this
  exact h.row.cell _ _ (by rw [kro_get N sl i j hj 24 hi]; exact hu)
theorem kro_at (N : Nat → Vl.Th) (sl : Nat → Sl) {i : Nat} (hi : i < 24) : ∀ j u, (sc (N i) (sl i).v)[j]? = some u → (kro N sl 24)[i * 9 + j]? = some u := fun j u hu => by
  have hj : j < 9 := by have := (List.getElem?_eq_some_iff.1 hu).1; rwa [sc_len] at this
  rw [kro_get N sl i j hj 24 hi]
  exact hu
theorem KR.noByte (h : KR w g N sl) (o : Nat) (z : Int) : w.cell? ⟨g, o, none⟩ ≠ some (.int .u8 z) := by
  rw [cell_of_row _ _ _ _ _ _ h.row]
  intro e
  have e' : (kro N sl 24)[o]? = some (.int .u8 z) := by simpa using e
  have ho : o < 216 := by have := (List.getElem?_eq_some_iff.1 e').1; rw [kro_len] at this; omega
  have hq : o / 9 * 9 + o % 9 = o := by omega
  rw [← hq, kro_get N sl (o / 9) (o % 9) (by omega) 24 (by omega)] at e'
  have hr : o % 9 < 9 := by omega
  generalize o % 9 = r at e' hr
  have h9 : r = 0 ∨ r = 1 ∨ r = 2 ∨ r = 3 ∨ r = 4 ∨ r = 5 ∨ r = 6 ∨ r = 7 ∨ r = 8 := by omega
  rcases h9 with rfl | rfl | rfl | rfl | rfl | rfl | rfl | rfl | rfl <;> simp [sc, Sl.v] at e'
theorem KR.bsOff (h : KR w g N sl) {A : Option Addr} {n : Nat} {l : List UInt8} (hb : BS w A n l) (hk : Keep (· ≠ g) w w') : BS w' A n l :=
  hb.off (fun o z => h.noByte o z) (fun k _ hne => hk.block k hne)
/-- One of them is set. -/
theorem KR.put (h : KR w g N sl) {i : Nat} (hi : i < 24) {x : Vl.Th} {s : Sl} (hw : Bw w' g ((kro N sl 24).take (i * 9) ++ sc x s.v ++ (kro N sl 24).drop (i * 9 + 9)) 32) (hk : Keep (· ≠ g) w w') (hb : BS w s.a s.n x.dt) (hc : s.n ≤ s.c) : KR w' g (Vl.upd N i x) (Vl.upd sl i s) := by
  refine ⟨by rw [← kro_put N sl i x s 24 hi]; exact hw, fun j hj => ?_⟩
  by_cases e : j = i
  · subst e
    rw [Vl.upd_same, Vl.upd_same]
    exact ⟨h.bsOff hb hk, hc⟩
  · rw [Vl.upd_other _ _ e, Vl.upd_other _ _ e]
    exact ⟨h.bsOff (h.bs j hj).1 hk, (h.bs j hj).2⟩
/-- The other row stays. -/
theorem KR.stay (h : KR w g N sl) {g2 : Nat} {N2 : Nat → Vl.Th} {sl2 : Nat → Sl} (h2 : KR w g2 N2 sl2) (hne : g2 ≠ g) (hk : Keep (· ≠ g) w w') : KR w' g2 N2 sl2 :=
  ⟨h2.row.keep hk hne, fun i hi => ⟨h.bsOff (h2.bs i hi).1 hk, (h2.bs i hi).2⟩⟩
theorem KR.ss (h : KR w g N sl) : SS w (some ⟨g, 0, none⟩) 24 ((List.range 24).map N) := by
  refine ⟨by simp, fun _ => ⟨g, 0, rfl, fun k hk => ⟨sl k, ?_, ?_, ?_⟩⟩⟩
  · have hk' : k < 24 := by simpa using hk
    simp only [List.getElem_map, List.getElem_range]
    rw [Nat.zero_add]
    exact h.cells hk'
  · simp only [List.getElem_map, List.getElem_range]
    exact (h.bs k (by simpa using hk)).1
  · exact (h.bs k (by simpa using hk)).2
end
theorem SS.offRow {w w' : World} {g : Nat} {N : Nat → Vl.Th} {sl : Nat → Sl} (h : KR w g N sl) {A : Option Addr} {n : Nat} {l : List Vl.Th} (hs : SS w A n l) (hA : ∀ ad, A = some ad → 0 < n → ad.block ≠ g) (hk : Keep (· ≠ g) w w') : SS w' A n l := by
  refine ⟨hs.1, fun hn => ?_⟩
  obtain ⟨b, o, e, hc⟩ := hs.2 hn
  refine ⟨b, o, e, fun k hl => ?_⟩
  obtain ⟨y, h1, h2, h3⟩ := hc k hl
  exact ⟨y, fun j u hu => (World.cell?_of_block (hk.block b (hA _ e hn))).trans (h1 j u hu), h.bsOff h2 hk, h3⟩
theorem run_make_slots (w : World) : (Instr.makeSlice 27 (.int .i64 24) (.int .i64 24)).run Tryz.prog w = .ok (.slice (some ⟨w.heap.size, 0, none⟩) 24 24) (w.alloc (.cells (kro (fun _ => Sl.zero) (fun _ => ⟨none, 0, 0⟩) 24).toArray 32)) := by
  obtain ⟨i, hi, hz, hs, hb⟩ := info_parts infos_Sl
  have hr := run_makeSlice (P := Tryz.prog) w 27 32 i (.agg (sc Sl.zero (.slice none 0 0)).toArray) Tryz.underlying27 hi hz .i64 .i64 24 24 (by omega) (by omega) (by rw [hs]; decide) (by rw [hb]; decide) (by omega)
  have e : madeCells (Value.agg (sc Sl.zero (.slice none 0 0)).toArray).cells ((24 : Int).toNat * 9) = (kro (fun _ => Sl.zero) (fun _ => ⟨none, 0, 0⟩) 24).toArray := by kernel_rfl
  rw [hs, e] at hr
  exact hr
theorem KR.made (w : World) : KR (w.alloc (.cells (kro (fun _ => Sl.zero) (fun _ => ⟨none, 0, 0⟩) 24).toArray 32)) w.heap.size (fun _ => Sl.zero) (fun _ => ⟨none, 0, 0⟩) :=
  ⟨heap_alloc_new w _, fun _ _ => ⟨BS.nil, Nat.le_refl _⟩⟩
namespace Vl
/-- What the law keeps beside, as it goes. -/
def nowS (l : List Th) (S : Nat → Th) : Nat → Th := l.foldl (fun S s => if Sl.okS s = true then upd S s.ino s else S) S
theorem nowS_snoc (l : List Th) (s : Th) (S : Nat → Th) : nowS (l ++ [s]) S = if Sl.okS s = true then upd (nowS l S) s.ino s else nowS l S := by
  unfold nowS
  rw [List.foldl_append]
  rfl
theorem nowS_may : ∀ (l : List Th) (S : Nat → Th), (∀ s ∈ l, Sl.okS s = true) → nowS l S = setS l S
  | [], _, _ => rfl
  | s :: r, S, h => by
    have h1 := nowS_may r (upd S s.ino s) fun x hx => h x (List.mem_cons_of_mem _ hx)
    show nowS r (if Sl.okS s = true then upd S s.ino s else S) = setS r (upd S s.ino s)
    rw [if_pos (h s List.mem_cons_self), h1]
/-- As many blocks as the first k need. -/
def part24 (S : Nat → Th) (k : Nat) : Nat := ((List.range k).map fun i => need (S i).dt.length).sum
theorem part24_succ (S : Nat → Th) (k : Nat) : part24 S (k + 1) = part24 S k + need (S k).dt.length := by
  unfold part24
  rw [List.range_succ, List.map_append, List.sum_append]
  simp
theorem part24_all (S : Nat → Th) : part24 S 24 = tot S := rfl
end Vl
end Go.Proofs.YtnhokkdieijkhaaGreatDoor
