/-
  What RepliesKeeps keeps while its loops go (layer 14).
-/
import Derived.Test.YtjgmboleiaehaaaYKeepM
namespace Go.Proofs.Ytjgmboleiaehaaa
open Go.RowKit Go.Shelf

section
variable {P : Program} {o : Oper} {a : Act} {w : World}
theorem did_store_part (ty : TypeId) (x y : Operand) (ho : o.op = .store ty x y) (g k : Nat) (vs : List Value) (hx : a.eval x = .pointer (some ⟨g, k, none⟩)) (hy : a.eval y = .agg vs.toArray)
    (t : TypeId) (cs : List Value) (hg : Bw w g cs t) (hi : (P.info? ty).map (·.size) = some vs.length) (hfit : k + vs.length ≤ cs.length) (h1 : ∀ v ∈ vs, v.oneCell' = true) :
    Did P o a w undef (w.setRow g (cs.take k ++ vs ++ cs.drop (k + vs.length)).toArray) := by
  have hr := run_storeCells_at P g k t vs 0 cs.toArray w hg (by simpa using hfit) h1
  simp only [Nat.add_zero] at hr
  refine .inr ⟨?_, rfl⟩
  cases hq : P.info? ty with
  | none => simp [hq] at hi
  | some i =>
    have hs : vs.length = i.size := by simp [hq] at hi; omega
    have hsv : (storeVar ty ⟨g, k, none⟩ (.agg vs.toArray)).run P w = .ok () (w.setRow g (cs.take k ++ vs ++ cs.drop (k + vs.length)).toArray) := by
      simp [storeVar, sizeOf, typeInfo, hq, Value.cells, hs.symm, hr]
    unfold execOp
    simp only [ho, hx, hy, Instr.storeAt, Instr.sureAddr, Sem.run_bind, Sem.run_pure, Result.andThen_ok, hsv]
theorem store_part_wp {K : Act → World → Prop} {Q : Exit → Act → World → Prop} (ty : TypeId) (x y : Operand) (ho : o.op = .store ty x y) (g k : Nat) (vs : List Value) (hx : a.eval x = .pointer (some ⟨g, k, none⟩)) (hy : a.eval y = .agg vs.toArray)
    (t : TypeId) (cs : List Value) (hg : Bw w g cs t) (hi : (P.info? ty).map (·.size) = some vs.length) (hfit : k + vs.length ≤ cs.length) (h1 : ∀ v ∈ vs, v.oneCell' = true)
    (h : ∀ w', Bw w' g (cs.take k ++ vs ++ cs.drop (k + vs.length)) t → w'.heap.size = w.heap.size → Keep (· ≠ g) w w' → K (a.put o.dst undef) w') : o.wp P a w K Q :=
  (did_store_part ty x y ho g k vs hx hy t cs hg hi hfit h1).wp (h _ (setRow_heap w g _ _ t _ hg) (by simp) (setRow_keep g _))
end
def encO : Option Rp → List UInt8
  | none => []
  | some r => Ry.enc r
/-- What the clients were told, plainly. -/
structure KB (K : Nat → Option Rp) (X : TX) : Prop where
  ok : ∀ c r, K c = some r → r.cli = c ∧ r.Wide ∧ Ry.okB r = true
  bk : ∀ c, c < 8 → TX.bk X 40 (1 + c) = encO (K c)
theorem KB.new : KB (fun _ => none) (TX.new (List.replicate 40 [])) := ⟨(fun c r h => by cases h), fun c _ => by rw [bk_new]; rfl⟩
theorem KB.put {K : Nat → Option Rp} {X : TX} (h : KB K X) (r : Rp) (hw : r.Wide) (hr : Ry.okB r = true) : KB (lastK K r) (Ry.pPut 40 X r) := by
  refine ⟨fun c r' h' => ?_, fun c hc => ?_⟩
  · unfold lastK at h'
    by_cases e : c = r.cli
    · rw [if_pos e] at h'
      obtain rfl := Option.some.inj h'
      exact ⟨e.symm, hw, hr⟩
    · rw [if_neg e] at h'
      exact h.ok c r' h'
  · rw [Ry.pPut_bk 40 X r hr (by omega)]
    unfold lastK
    by_cases e : c = r.cli
    · rw [if_pos e, if_pos (by omega)]
      rfl
    · rw [if_neg e, if_neg (by omega)]
      exact h.bk c hc
/-- Two transactions, a row of replies, a row of bools. -/
structure KI (w w1 : World) (p m h pu mu hu bL bH : Nat) (W : World) (KL KH : Nat → Option Rp) (X Y : TX) : Prop where
  t : TK w p m ⟨some ⟨h, 0, none⟩, 40, 40⟩ X W
  u : Tq W pu mu ⟨some ⟨hu, 0, none⟩, 40, 40⟩ (fun z => w1.heap.size ≤ z) Y
  last : LS W bL KL
  has : HS W bH KH
  le : w.heap.size ≤ w1.heap.size
  p1 : p < w1.heap.size
  m1 : m < w1.heap.size
  l1 : w1.heap.size ≤ bL
  h1 : w1.heap.size ≤ bH
  ne : bL ≠ bH
section
variable {w w1 W W' : World} {p m h pu mu hu bL bH : Nat} {KL KH : Nat → Option Rp} {X Y Z : TX}
theorem Tq.nrow {x : Sl} {S : Nat → Prop} {g : Nat} {cs : List Value} {t : TypeId} (h : Tq W p m x S X) (hg : Bw W g cs t) : g ≠ m := by
  rintro rfl
  obtain ⟨es, c, h1, _⟩ := h.puts
  have h2 := h1.symm.trans hg
  cases h2
theorem KI.below (k : KI w w1 p m h pu mu hu bL bH W KL KH X Y) (hb : Below W.heap.size W W') : KI w w1 p m h pu mu hu bL bH W' KL KH X Y :=
  ⟨k.t.below hb, k.u.below hb, k.last.below hb, k.has.below hb, k.le, k.p1, k.m1, k.l1, k.h1, k.ne⟩
theorem KI.putT (k : KI w w1 p m h pu mu hu bL bH W KL KH X Y) (ht : Tq W' p m ⟨some ⟨h, 0, none⟩, 40, 40⟩ (fun z => w.heap.size ≤ z) Z) (hb : Ch (· = m) W W') : KI w w1 p m h pu mu hu bL bH W' KL KH Z Y := by
  have a := k.l1; have b := k.h1; have c := k.m1; have d : w1.heap.size ≤ pu := k.u.sp; have e : w1.heap.size ≤ mu := k.u.sm
  exact ⟨k.t.put ht hb, k.u.ch hb (by omega) (by omega), k.last.ch hb (by omega), k.has.ch hb (by omega), k.le, k.p1, k.m1, k.l1, k.h1, k.ne⟩
theorem KI.putU (k : KI w w1 p m h pu mu hu bL bH W KL KH X Y) (ht : Tq W' pu mu ⟨some ⟨hu, 0, none⟩, 40, 40⟩ (fun z => w1.heap.size ≤ z) Z) (hb : Ch (· = mu) W W') : KI w w1 p m h pu mu hu bL bH W' KL KH X Z := by
  have a := k.p1; have b := k.le; have c := k.m1; have e : w1.heap.size ≤ mu := k.u.sm
  have hL : bL ≠ mu := by obtain ⟨L, hL, _⟩ := k.last; exact k.u.nrow hL.row
  have hH : bH ≠ mu := k.u.nrow (Odd.row k.has)
  exact ⟨k.t.off hb (by omega) (by omega) (by omega), ht, k.last.ch hb hL, k.has.ch hb hH, k.le, k.p1, k.m1, k.l1, k.h1, k.ne⟩
theorem KI.setL {K : Nat → Option Rp} (k : KI w w1 p m h pu mu hu bL bH W KL KH X Y) (hk : Keep (· ≠ bL) W W') (hL : LS W' bL K) : KI w w1 p m h pu mu hu bL bH W' K KH X Y := by
  have a := k.l1; have b := k.le
  obtain ⟨L, ho, _⟩ := k.last
  exact ⟨k.t.odd ho hk (by omega), k.u.odd ho hk, hL, k.has.keep hk (fun e => k.ne e.symm), k.le, k.p1, k.m1, k.l1, k.h1, k.ne⟩
theorem KI.setH {K : Nat → Option Rp} (k : KI w w1 p m h pu mu hu bL bH W KL KH X Y) (hk : Keep (· ≠ bH) W W') (hH : HS W' bH K) : KI w w1 p m h pu mu hu bL bH W' KL K X Y := by
  have a := k.h1; have b := k.le
  exact ⟨k.t.odd k.has hk (by omega), k.u.odd k.has hk, k.last.keep hk k.ne, hH, k.le, k.p1, k.m1, k.l1, k.h1, k.ne⟩
end
theorem encO_len {K : Nat → Option Rp} (k : Nat) : (encO (K k)).length ≤ 52 := by
  cases h : K k with
  | none => exact Nat.zero_le _
  | some r => show (Ry.enc r).length ≤ 52; rw [Ry.enc_length]; exact Nat.le_refl _
/-- What was told as a raw block goes as it is. -/
theorem KB.raw {K : Nat → Option Rp} {X : TX} (h : KB K X) (Y : TX) (k : Nat) (hk : k < 8) (hy : ∀ c, c < k → TX.bk Y 40 (1 + c) = encO (K c)) :
    Ry.srErr 40 k (encO (K k)) = 0 ∧ ∀ c, c < k + 1 → TX.bk (Ry.srPut 40 Y k (encO (K k))) 40 (1 + c) = encO (K c) := by
  have hs : Ry.sErr k (encO (K k)) = 0 := by
    unfold Ry.sErr
    rw [if_pos hk]
    cases e : K k with
    | none => exact if_neg (fun e => e.1 rfl)
    | some r =>
      obtain ⟨h1, h2, h3⟩ := h.ok k r e
      exact if_neg (fun e => e.2 (Ry.got_enc r h2 h3).1)
  have hl : (encO (K k)).length ≤ 96 := Nat.le_trans (encO_len k) (by decide)
  refine ⟨(if_pos hs).trans (TX.perr_ok (hasB_nat (by omega)) hl), fun c hc => ?_⟩
  rw [show Ry.srPut 40 Y k (encO (K k)) = _ from if_pos hs, bk_put Y 40 (1 + k) _ (by omega) hl]
  by_cases e : c = k
  · rw [if_pos (by omega), e]
  · rw [if_neg (by omega)]
    exact hy c (by omega)
/-- What is told of it. -/
theorem KB.told {K : Nat → Option Rp} {X : TX} (h : KB K X) (k : Nat) (hk : k < 8) :
    Ry.gErr k (encO (K k)) = 0 ∧ Ry.gIs k (encO (K k)) = (K k).isSome ∧ ∀ r, K k = some r → Ry.gRep k (encO (K k)) = r := by
  cases e : K k with
  | none =>
    refine ⟨?_, (Ry.none_nil k 0).1, fun r h => by cases h⟩
    show Ry.gErr k [] = 0
    unfold Ry.gErr
    rw [if_pos hk]
    rfl
  | some r =>
    obtain ⟨h1, h2, h3⟩ := h.ok k r e
    obtain ⟨a, b, c⟩ := Ry.gIs_enc r h2 h3
    rw [← h1]
    exact ⟨c, a, fun r' h' => by rw [← Option.some.inj h']; exact b⟩
theorem ES.zero {w : World} {A : Option Addr} {es : List En} (h : es = []) : ES w A 0 es := ⟨by rw [h]; rfl, fun h => absurd h (Nat.lt_irrefl _)⟩
theorem BS.zero {w : World} {A : Option Addr} {l : List UInt8} (h : l = []) : BS w A 0 l := ⟨by rw [h]; rfl, fun h => absurd h (Nat.lt_irrefl _)⟩
end Go.Proofs.Ytjgmboleiaehaaa
