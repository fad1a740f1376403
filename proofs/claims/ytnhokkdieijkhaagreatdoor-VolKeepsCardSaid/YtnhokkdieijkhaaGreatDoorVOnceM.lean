/-
  What the walk of VolOnce wants: things saved one by one, things saved together (layer 12).
-/
import Derived.Test.YtnhokkdieijkhaaGreatDoorVLaw
namespace Go.Proofs.YtnhokkdieijkhaaGreatDoor
open Go.RowKit Go.Shelf
namespace Vl
theorem setS_snoc (l : List Th) (s : Th) (S : Nat → Th) : setS (l ++ [s]) S = upd (setS l S) s.ino s := by
  unfold setS
  rw [List.foldl_append]
  rfl
theorem tot_few {D : List UInt8 → Nat → Bool} : ∀ (l : List Th) (S : Nat → Th), (∀ s ∈ l, s.okB D = true) → tot (setS l S) ≤ tot S + 8 * l.length
  | [], S, _ => by
    rw [show setS [] S = S from rfl]
    exact Nat.le_add_right _ _
  | s :: r, S, h => by
    have h1 := okB_facts (h s List.mem_cons_self)
    have h2 := tot_few r (upd S s.ino s) fun x hx => h x (List.mem_cons_of_mem _ hx)
    have h3 := tot_upd S s (by omega)
    have h4 : need s.dt.length ≤ 8 := by unfold need; omega
    rw [show setS (s :: r) S = setS r (upd S s.ino s) from rfl]
    simp only [List.length_cons]
    omega
theorem mayB_ok {D : List UInt8 → Nat → Bool} {l : List Th} (h : mayB D l = true) : ∀ s ∈ l, s.okB D = true := by
  unfold mayB at h
  rw [Bool.and_eq_true, List.all_eq_true] at h
  exact h.1
theorem mayB_sing {D : List UInt8 → Nat → Bool} (s : Th) : mayB D [s] = s.okB D := by
  unfold mayB
  simp
theorem svE_few {l : List Th} (h : l.length ≤ 12) : svE Sl.dirB 135 l bare = if mayB Sl.dirB l = true then 0 else 1 := by
  unfold svE
  by_cases hm : mayB Sl.dirB l = true
  · rw [if_pos hm, if_pos hm, if_pos]
    have := tot_few l bare (mayB_ok hm)
    rw [tot_none] at this
    omega
  · rw [if_neg hm, if_neg hm]
/-- Few things, none of them great. -/
def fewB (l : List Th) : Bool := (l.all fun s => decide (s.dt.length ≤ 800)) && decide (l.length ≤ 12)
theorem fewB_iff {l : List Th} : fewB l = true ↔ (∀ s ∈ l, s.dt.length ≤ 800) ∧ l.length ≤ 12 := by
  unfold fewB
  simp
end Vl
section
variable {w w' : World} {p m B c : Nat} {x : Sl} {X : TX} {Sv : Nat → Vl.Th} {bl : Nat → List Nat}
theorem VX.other {q n' : Nat} {Sv' : Nat → Vl.Th} {c' : Nat} (h : VX w p m x B X Sv bl c) (hp : Vm w q n' B Sv' c') (hc : Ch (· = q) w w') (hne : p ≠ q) : VX w' p m x B X Sv bl c := by
  obtain ⟨m2, x2, X2, bl2, h2, rfl⟩ := hp
  refine ⟨h.tq.ch hc hne ?_, h.vol, h.sm, h.ch, h.cn, h.n1, h.n2, Nat.le_trans h.bn hc.size⟩
  rintro rfl
  have := h2.tq.cells
  obtain ⟨es, cl, h3, _⟩ := h.tq.puts
  rw [h3] at this
  cases this
/-- One volume behind a save of l: saved, or as it was. -/
def TI (w : World) (p B : Nat) (l : List Vl.Th) : Prop :=
  (Vl.mayB Sl.dirB l = true → Vm w p 135 B (Vl.setS l Vl.bare) 0) ∧ (Vl.mayB Sl.dirB l = false → ∃ m x, VX w p m x B (TX.new (List.replicate 135 [])) Vl.bare (fun _ => []) 0 ∧ x.n = 135)
theorem TI.below {l : List Vl.Th} (h : TI w p B l) (hb : Below w.heap.size w w') : TI w' p B l :=
  ⟨fun hm => (h.1 hm).below hb, fun hm => by obtain ⟨m, x, h1, h2⟩ := h.2 hm; exact ⟨m, x, h1.below hb, h2⟩⟩
theorem TI.other {q n' : Nat} {Sv' : Nat → Vl.Th} {c' : Nat} {l : List Vl.Th} (h : TI w p B l) (hp : Vm w q n' B Sv' c') (hc : Ch (· = q) w w') (hne : p ≠ q) : TI w' p B l :=
  ⟨fun hm => (h.1 hm).other hp hc hne, fun hm => by obtain ⟨m, x, h1, h2⟩ := h.2 hm; exact ⟨m, x, h1.other hp hc hne, h2⟩⟩
theorem VX.saveTI (h : VX w p m x B (TX.new (List.replicate 135 [])) Vl.bare (fun _ => []) 0) (hx : x.n = 135) (A : Option Addr) (n k : Nat) (l : List Vl.Th) (hl : SS w A n l) (hf : ∀ s ∈ l, Fits s ∧ s.dt.length ≤ 1000) (hn : l.length ≤ 12) :
    Calls Tryz.prog 13 #[.pointer (some ⟨p, 0, none⟩), .slice A n k] w fun e w' => e = .returned (.int .i64 (if Vl.mayB Sl.dirB l = true then 0 else 1)) ∧ Ch (· = p) w w' ∧ TI w' p B l := by
  refine (h.save A n k l hl hf (by have := hl.1; omega)).mono ?_
  rintro e w' ⟨rfl, hc, h2⟩
  have hs := Vl.svE_few hn
  rw [hx, hs] at h2 ⊢
  refine ⟨rfl, hc, fun hm => ?_, fun hm => ?_⟩
  · rw [if_pos hm] at h2
    rcases h2 with ⟨h0, _⟩ | ⟨_, m', X', st, hv, _⟩
    · exact absurd rfl h0
    · exact hx ▸ hv.vm
  · rw [if_neg (by rw [hm]; decide)] at h2
    rcases h2 with ⟨_, hv⟩ | ⟨h0, _⟩
    · exact ⟨m, x, hv, hx⟩
    · exact absurd h0 (by decide)
/-- One thing is saved where there is room. -/
theorem Vm.saveAny (h : Vm w p 135 B Sv c) (ht : Vl.tot Sv ≤ 88) (s : Vl.Th) (A : Option Addr) (k d : Nat) (hf : Fits s) (hd : s.dt.length ≤ 1000) (hb : BS w A k s.dt) (hc : k ≤ d) (W : World) (hW : W = w.alloc (.cells (sc s (.slice A k d)).toArray 32)) :
    Calls Tryz.prog 13 #[.pointer (some ⟨p, 0, none⟩), .slice (some ⟨w.heap.size, 0, none⟩) 1 1] W fun e w' =>
      Ch (· = p) W w' ∧ ((Sl.okS s = true ∧ e = .returned (.int .i64 0) ∧ Vm w' p 135 B (Vl.upd Sv s.ino s) c) ∨ (Sl.okS s = false ∧ e = .returned (.int .i64 1))) := by
  subst hW
  have h1 := h.below ((Below.refl _ _).alloc (Nat.le_refl _) (.cells (sc s (.slice A k d)).toArray 32))
  refine (h1.save _ 1 1 [s] (SS.one w s A k d hb hc) (fun x hx => ?_) (by omega)).mono ?_
  · obtain rfl := List.mem_singleton.1 hx
    exact ⟨hf, hd⟩
  · rintro e w' ⟨rfl, hch, hv⟩
    refine ⟨hch, ?_⟩
    cases hok : Sl.okS s with
    | true =>
      have he := Vl.svE_one (n := 135) (S := Sv) hok
      have hi := Vl.okB_facts hok
      have h3 := Vl.tot_upd Sv s (by omega)
      have h4 : need s.dt.length ≤ 8 := by unfold need; omega
      rw [if_pos (by omega)] at he
      refine .inl ⟨rfl, by rw [he], ?_⟩
      have : Vl.svS Sl.dirB 135 [s] Sv = Vl.upd Sv s.ino s := by unfold Vl.svS; rw [if_pos he]; rfl
      rw [this] at hv
      exact hv
    | false =>
      have he : Vl.svE Sl.dirB 135 [s] Sv = 1 := by
        unfold Vl.svE
        rw [Vl.mayB_sing, if_neg]
        rw [show s.okB Sl.dirB = false from hok]
        decide
      exact .inr ⟨rfl, by rw [he]⟩
/-- A new transaction changes nothing. -/
theorem TX.chs_new (l : List (List UInt8)) : ∀ k, (TX.new l).chs k = []
  | 0 => rfl
  | k + 1 => by
    rw [TX.chs_no (TX.chg_none rfl), TX.chs_new l k]
theorem TI.changes {l : List Vl.Th} (h : TI w p B l) (hm : Vl.mayB Sl.dirB l = false) : Calls Tryz.prog 21 #[.pointer (some ⟨p, 0, none⟩)] w fun e w' => ∃ A k, e = .returned (.slice A 0 k) ∧ Below w.heap.size w w' := by
  obtain ⟨m, x, h1, h2⟩ := h.2 hm
  refine (changes_any h1.tq (by omega)).mono ?_
  rintro e w' ⟨A, k, sl, rfl, _, hb, _⟩
  rw [TX.chs_new]
  exact ⟨A, k, rfl, hb⟩
end
theorem wpStill_did {P : Program} {ops : Array Oper} {w : World} {Q : Act → Prop} {o : Oper} {rest : List Oper} {a : Act} {v : Value} (hg : o.guard = none) (h : Did P o a w v w) (hK : wpStill P ops w Q rest (a.put o.dst v)) : wpStill P ops w Q (o :: rest) a := by
  have hw : Region.wanted o (yielded ops a.tmps) = true := by simp [Region.wanted, hg]
  unfold wpStill
  rw [if_pos hw]
  unfold Oper.still
  rcases h with h | ⟨h, rfl⟩
  · rw [h]; exact ⟨rfl, hK⟩
  · rw [h]; exact ⟨rfl, hK⟩

theorem seen_step (f : Bool) (s a : Nat) (L : List Nat) : (f && !decide (s ∈ L ++ [a])) = ((f && !decide (s ∈ L)) && !decide (s = a)) := by
  have h : decide (s ∈ L ++ [a]) = (decide (s ∈ L) || decide (s = a)) := by simp
  rw [h]
  cases f <;> cases decide (s ∈ L) <;> cases decide (s = a) <;> rfl
theorem Below.drewsN (w : World) (B n : Nat) : Below B w (w.drewN n) := ⟨rfl, rfl, rfl, Nat.le_refl _, fun _ _ => rfl⟩
/-- While things are saved one by one. -/
structure UI (w : World) (q B : Nat) (l : List Vl.Th) (k : Nat) (f : Bool) : Prop where
  eq : f = Vl.mayB Sl.dirB (l.take k)
  vm : f = true → Vm w q 135 B (Vl.setS (l.take k) Vl.bare) 0
theorem UI.below {w w' : World} {q B : Nat} {l : List Vl.Th} {k : Nat} {f : Bool} (h : UI w q B l k f) (hb : Below w.heap.size w w') : UI w' q B l k f := ⟨h.eq, fun e => (h.vm e).below hb⟩
theorem UI.tot {w : World} {q B : Nat} {l : List Vl.Th} {k : Nat} (h : UI w q B l k true) (hk : k < 12) : Vl.tot (Vl.setS (l.take k) Vl.bare) ≤ 88 := by
  have := Vl.tot_few (l.take k) Vl.bare (Vl.mayB_ok h.eq.symm)
  rw [Vl.tot_none, List.length_take] at this
  omega
attribute [local go_sem] Oper.semAt_some
set_option maxRecDepth 100000 in
set_option maxHeartbeats 1000000 in
theorem few_any (A : Option Addr) (n cap : Nat) (l : List Vl.Th) (w : World) (h : SS w A n l) (hn : n ≤ maxLen) (hm : ∀ s ∈ l, s.dt.length ≤ maxLen) :
    Calls Tryz.prog 11 #[.slice A n cap] w fun e w' => e = .returned (.bool (Vl.fewB l)) ∧ w' = w := by
  have HX := Lib.hid h
  have HM := Lib.hid hm
  have hn2 : n ≤ 9223372036854775807 := by unfold maxLen at hn; omega
  have hll : l.length = n := h.1
  clear h hm hn
  go_enter Tryz.func11, Tryz.ntmps11
  go_wp2_with fail
  go_loop [3] (fun i => ∃ k : Nat, k ≤ n ∧ i = .int .i64 k ∧ Hid (∀ j (h : j < l.length), j < k → l[j].dt.length ≤ 800)) (fun i => n - (intOf i).toNat)
  case atStart => exact ⟨0, by omega, rfl, fun j _ h => by omega⟩
  case round =>
    obtain ⟨k, hk, rfl, HO⟩ := hrel
    by_cases hlt : k < n
    · obtain ⟨b, o, y, hl, rfl, hc, hbs, -⟩ := HX.out.at hlt
      have c8 : w.cell? ⟨b, o + k * 9 + 8, none⟩ = some (.slice y.a y.n y.c) := hc 8 _ rfl
      have hyl : l[k].dt.length = y.n := hbs.1
      have hym : y.n ≤ 9223372036854775807 := by have := HM.out _ (List.getElem_mem hl); rw [hyl] at this; unfold maxLen at this; omega
      have HYL := Lib.hid hyl
      clear hc hbs hyl hll
      by_cases hd : y.n ≤ 800
      · have hd1 : decide ((800 : Int) < (y.n : Int)) = false := by simp; omega
        have hd2 : decide (800 < y.n) = false := by simp; omega
        have HN : Hid (∀ j (h : j < l.length), j < k + 1 → l[j].dt.length ≤ 800) := fun j hj hjk => by
          by_cases e : j = k
          · subst e; rw [HYL.out]; exact hd
          · exact HO.out j hj (by omega)
        clear HO
        go_wp2_with fail
        go_round
        case rel => exact ⟨k + 1, by omega, by go_num, HN⟩
        case measure => simp [intOf]; omega
      · have hd1 : decide ((800 : Int) < (y.n : Int)) = true := by simp; omega
        have hd2 : decide (800 < y.n) = true := by simp; omega
        have HE : Hid (Vl.fewB l = false) := by
          show _ = _
          cases hf : Vl.fewB l with
          | false => rfl
          | true =>
            have := (Vl.fewB_iff.1 hf).1 _ (List.getElem_mem hl)
            rw [HYL.out] at this
            exact absurd this hd
        go_wp2_with fail
        go_ret
        rw [HE.out]
        exact ⟨rfl, rfl⟩
    · obtain rfl : k = n := by omega
      have HE : Hid (Vl.fewB l = decide (k ≤ 12)) := by
        show _ = _
        rw [Bool.eq_iff_iff, Vl.fewB_iff, hll]
        simp only [decide_eq_true_eq]
        refine ⟨fun h => h.2, fun h => ⟨fun s hs => ?_, h⟩⟩
        obtain ⟨i, hi, rfl⟩ := List.getElem_of_mem hs
        exact HO.out i hi (by omega)
      clear HO hll
      by_cases hd : k ≤ 12
      · have hd1 : decide ((k : Int) ≤ 12) = true := by simp; omega
        have hd2 : decide (k ≤ 12) = true := by simp; omega
        go_wp2_with fail
        go_ret
        rw [HE.out, hd2]
        exact ⟨rfl, rfl⟩
      · have hd1 : decide ((k : Int) ≤ 12) = false := by simp; omega
        have hd2 : decide (k ≤ 12) = false := by simp; omega
        go_wp2_with fail
        go_ret
        rw [HE.out, hd2]
        exact ⟨rfl, rfl⟩
end Go.Proofs.YtnhokkdieijkhaaGreatDoor
