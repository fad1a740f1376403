/-
  Contract of change: a change that touches slots (layer 13).
-/
import Derived.Test.YtpbpdnjlomhkdaaGreatOUsed
import Derived.Test.YtpbpdnjlomhkdaaGreatOPC
namespace Go.Proofs.YtpbpdnjlomhkdaaGreat
open Go.RowKit Go.Shelf

/-- Pointers to slots of the row g, in a row at b. -/
def PtrS (w : World) (g b : Nat) (L : List Nat) : Prop := ∀ j (h : j < L.length), w.cell? ⟨b, j, none⟩ = some (.pointer (some ⟨g, L[j] * 9, none⟩))
theorem PtrS.keep {w w' : World} {g b : Nat} {L : List Nat} (h : PtrS w g b L) {K : Nat → Prop} (hk : Keep K w w') (hb : K b) : PtrS w' g b L := fun j hj => (World.cell?_of_block (hk.block b hb)).trans (h j hj)
theorem PtrS.below {w w' : World} {g b : Nat} {L : List Nat} (h : PtrS w g b L) (hb : Below w.heap.size w w') : PtrS w' g b L := fun j hj => (hb.cell (World.block_lt_of_cell? w _ (h j hj))).trans (h j hj)
theorem PtrS.set {w : World} {g b : Nat} {L : List Nat} (h : PtrS w g b L) {a : Addr} (ha : a.block ≠ b) (v : Value) : PtrS (w.setCell a v) g b L := fun j hj => (World.cell?_of_block (Below.heap_setCell w a v b (fun e => ha e.symm))).trans (h j hj)
namespace Op
/-- Behind so many stamps. -/
def stamps (t : TT) (L : List Nat) : TT := ⟨L.foldl (stamp (bump t)) t.s, bump t, t.rm⟩
theorem stamps_snoc (t : TT) (L : List Nat) (i : Nat) : stamps t (L ++ [i]) = Op.set (stamps t L) i { (stamps t L).s i with change := bump t } := by
  unfold stamps
  rw [List.foldl_append]
  rfl
theorem stamps_nil (t : TT) : stamps t [] = ⟨t.s, bump t, t.rm⟩ := rfl
theorem stamps_touch (t : TT) (L : List Nat) : stamps t L = touch t L := rfl
theorem touch_len (t : TT) (L : List Nat) (i : Nat) : ((touch t L).s i).dt = (t.s i).dt := by rw [touch_at]
end Op
theorem load_things (W : World) (p g k : Nat) (u : Op.TT) {a : Act} {o : Oper} {x : Operand} (ho : o.op = .load 27 x) (hx : a.eval x = .pointer (some ⟨p, 0, none⟩)) (h0 : W.cell? ⟨p, 0, none⟩ = some (.slice (some ⟨g, 0, none⟩) 24 k)) (h1 : W.cell? ⟨p, 1, none⟩ = some (.int .u64 (u.ch : Int))) (h2 : W.cell? ⟨p, 2, none⟩ = some (.int .i64 u.rm)) :
    (execOp a.eval o).run Tryz.prog W = .ok (.value (.agg (tc u (.slice (some ⟨g, 0, none⟩) 24 k)).toArray)) W := by
  have hd := did_load (P := Tryz.prog) (o := o) (a := a) (w := W) 27 x ho ⟨p, 0, none⟩ hx _ Tryz.underlying27 rfl (tc u (.slice (some ⟨g, 0, none⟩) 24 k)) size_Th (fun j v hv => by
    rw [add_plain, Nat.zero_add]
    match j, hv with
    | 0, hv => rw [h0]; exact hv
    | 1, hv => rw [h1]; exact hv
    | 2, hv => rw [h2]; exact hv
    | j + 3, hv => simp [tc] at hv)
  rcases hd with h | ⟨_, h⟩
  · exact h
  · cases h
section
variable {w0 w w' : World} {p g k : Nat} {t u : Op.TT} {sl : Nat → Sl} {c : Cl} {B : Option Addr} {n d : Nat} {r r' : Rp} {D D' : Option Addr} {m e m' e' : Nat} {E E' : Option Addr} {q f q' f' : Nat}
/-- What change leaves. -/
def ChgX (w0 : World) (p g k : Nat) (t : Op.TT) (L : List Nat) (sl : Nat → Sl) (c : Cl) (B : Option Addr) (n d : Nat) (r : Rp) (D : Option Addr) (m e : Nat) (E : Option Addr) (q f : Nat) (en : Ending) (w' : World) : Prop :=
  (en = .returned (.tuple #[]) ∧ ¬ t.rm < (Vl.tot (Op.touch t L).s : Int) ∧ RX w0 w' p g k (Op.touch t L) sl c B n d r D m e E q f) ∨ (en = .panicked (pan 66) ∧ t.rm < (Vl.tot (Op.touch t L).s : Int) ∧ Below w0.heap.size w0 w')
set_option maxRecDepth 100000 in
set_option maxHeartbeats 4000000 in
theorem change_any {kc : Nat} (h : RX w0 w p g k t sl c B n d r D m e E q f) {b : Nat} {L : List Nat} (hp : PtrS w g b L) (hb : b ≠ p ∧ b ≠ g) (hL : ∀ i ∈ L, i < 24) (hm : L.length ≤ 10) (hn : ∀ i, i < 24 → (t.s i).dt.length ≤ 1000000) :
    Calls Tryz.prog 112 #[.pointer (some ⟨p, 0, none⟩), .slice (some ⟨b, 0, none⟩) L.length kc] w (ChgX w0 p g k t L sl c B n d r D m e E q f) := by
  have HX := Lib.hid h
  have HP := Lib.hid hp
  have HB := Lib.hid hb
  have HL := Lib.hid hL
  have HN : Hid (∀ i, i < 24 → ((Op.touch t L).s i).dt.length ≤ 1000000) := fun i hi => by rw [Op.touch_len]; exact hn i hi
  have q1 := h.cellR 1 _ rfl
  have f1 := h.run.froz 1
  clear h hp hb hL hn
  go_enter Tryz.func112, Tryz.ntmps112
  go_upto_region 2 with fail
  have HW : Hid (IntKind.u64.wrap ((t.ch : Int) + 1) = (Op.bump t : Int)) := by show _ = _; rw [IntKind.wrap_u64]; unfold Op.bump; omega
  rw [HW.out]
  have HX1 : Hid (RX w0 (w.setCell ⟨p, 1, none⟩ (.int .u64 (Op.bump t : Int))) p g k (Op.stamps t []) sl c B n d r D m e E q f) := HX.out.setR 1 _ rfl rfl
  have HP1 := Lib.hid (HP.out.set (a := ⟨p, 1, none⟩) (fun e => HB.out.1 e.symm) (.int .u64 (Op.bump t : Int)))
  generalize w.setCell ⟨p, 1, none⟩ (.int .u64 (Op.bump t : Int)) = w1 at *
  clear q1 f1 HX HP
  generalize hV : IntKind.u64.wrap ((t.ch : Int) + 1) = V at *
  clear hV HW
  go_loopw [17] (fun i wr => ∃ j : Nat, j ≤ L.length ∧ i = .int .i64 j ∧ Hid (RX w0 wr p g k (Op.stamps t (L.take j)) sl c B n d r D m e E q f) ∧ Hid (PtrS wr g b L)) (fun i _ => L.length - (intOf i).toNat)
  case atStart => exact ⟨0, by omega, rfl, HX1.out, HP1.out⟩
  case round =>
    clear HX1 HP1
    obtain ⟨j, hj, rfl, HX, HP⟩ := hrel
    by_cases hlt : j < L.length
    · have hc := HP.out j hlt
      have hi := HL.out _ (List.getElem_mem hlt)
      have HT : Hid (Op.stamps t (L.take (j + 1)) = Op.set (Op.stamps t (L.take j)) L[j] { (Op.stamps t (L.take j)).s L[j] with change := Op.bump t }) := by
        show _ = _
        rw [← Op.stamps_snoc, List.take_succ_eq_append_getElem hlt]
      generalize L[j] = i at *
      have q1 : wr.cell? ⟨p, 1, none⟩ = some (.int .u64 (Op.bump t : Int)) := HX.out.cellR 1 _ rfl
      have q5 := HX.out.cellS hi 5 _ rfl
      have f5 := HX.out.frozS (i * 9 + 5)
      go_wp2_with fail
      have HX2 : Hid (RX w0 (wr.setCell ⟨g, i * 9 + 5, none⟩ (.int .u64 (Op.bump t : Int))) p g k (Op.stamps t (L.take (j + 1))) sl c B n d r D m e E q f) := by
        rw [HT.out]
        exact HX.out.setN hi 5 (by omega) _ rfl rfl
      have HP2 := Lib.hid (HP.out.set (a := ⟨g, i * 9 + 5, none⟩) (fun e => HB.out.2 e.symm) (.int .u64 (Op.bump t : Int)))
      clear HX HP HT q1 q5 f5 hc
      go_roundw
      case rel => exact ⟨j + 1, by omega, by go_num, HX2.out, HP2.out⟩
      case measure => simp [intOf]; omega
    · obtain rfl : j = L.length := by omega
      rw [List.take_length, Op.stamps_touch] at HX
      clear HP HL HB
      generalize hu : Op.touch t L = u at *
      have HRM : Hid (u.rm = t.rm) := by rw [← hu]; rfl
      have HUQ := Lib.hid hu
      clear hu
      have HU : Hid (∀ W, Below wr.heap.size wr W → Calls Tryz.prog 28 #[.agg (tc u (.slice (some ⟨g, 0, none⟩) 24 k)).toArray] W fun e w' => e = .returned (.int .i64 (Vl.tot u.s : Int)) ∧ Below W.heap.size W w') := fun W hW => used_any (HX.out.below hW).sx.ss HN.out
      obtain ⟨T, hT⟩ : ∃ T, T = Vl.tot u.s := ⟨_, rfl⟩
      rw [← hT] at HU
      have HTT := Lib.hid hT
      clear hT HN
      go_upto_region 6 with fail
      have HXd := Lib.hid HX.out.drew
      have HS : Hid ((fun W : World => W.cell? ⟨p, 0, none⟩ = some (.slice (some ⟨g, 0, none⟩) 24 k) ∧ W.cell? ⟨p, 1, none⟩ = some (.int .u64 (u.ch : Int)) ∧ W.cell? ⟨p, 2, none⟩ = some (.int .i64 u.rm)) wr.drew) := ⟨HXd.out.cellR 0 _ rfl, HXd.out.cellR 1 _ rfl, HXd.out.cellR 2 _ rfl⟩
      refine wp_region_held_drew (S := (fun W : World => W.cell? ⟨p, 0, none⟩ = some (.slice (some ⟨g, 0, none⟩) 24 k) ∧ W.cell? ⟨p, 1, none⟩ = some (.int .u64 (u.ch : Int)) ∧ W.cell? ⟨p, 2, none⟩ = some (.int .i64 u.rm))) (by kernel_rfl) HS.out (fun _ => ?_)
      change wpAnyH _ _ _ _ _ 12 (Array.replicate 12 false) _ _
      refine takeH (i := 0) 30 (.pointer (some ⟨p, 0, none⟩)) rfl rfl (by kernel_rfl) (by kernel_rfl) (by kernel_rfl) (fun _ _ _ h => h) (.inl ⟨by rfl, fun W hW => by go_simp⟩) HS.out ?_
      simp only [Act.put, List.setIfInBounds_toArray, List.set_cons_zero, List.set_cons_succ]
      refine takeH (i := 1) 31 (.pointer (some ⟨p, 0, none⟩)) rfl rfl (by kernel_rfl) (by kernel_rfl) (by kernel_rfl) (fun _ _ _ h => h) (.inl ⟨by rfl, fun W hW => by go_simp⟩) HS.out ?_
      simp only [Act.put, List.setIfInBounds_toArray, List.set_cons_zero, List.set_cons_succ]
      refine takeH (i := 2) 32 (.pointer (some ⟨p, 0, none⟩)) rfl rfl (by kernel_rfl) (by kernel_rfl) (by kernel_rfl) (fun _ _ _ h => h) (.inl ⟨by rfl, fun W hW => by go_simp⟩) HS.out ?_
      simp only [Act.put, List.setIfInBounds_toArray, List.set_cons_zero, List.set_cons_succ]
      refine takeH (i := 3) 33 (.agg (tc u (.slice (some ⟨g, 0, none⟩) 24 k)).toArray) rfl rfl (by kernel_rfl) (by kernel_rfl) (by kernel_rfl) (fun _ _ _ h => h) (.inl ⟨by rfl, fun W hW => by (exact load_things W p g k u rfl rfl hW.1 hW.2.1 hW.2.2)⟩) HS.out ?_
      simp only [Act.put, List.setIfInBounds_toArray, List.set_cons_zero, List.set_cons_succ]
      refine takeH (i := 5) 35 (.pointer (some ⟨p, 0, none⟩)) rfl rfl (by kernel_rfl) (by kernel_rfl) (by kernel_rfl) (fun _ _ _ h => h) (.inl ⟨by rfl, fun W hW => by go_simp⟩) HS.out ?_
      simp only [Act.put, List.setIfInBounds_toArray, List.set_cons_zero, List.set_cons_succ]
      refine takeH (i := 6) 36 (.pointer (some ⟨p, 0, none⟩)) rfl rfl (by kernel_rfl) (by kernel_rfl) (by kernel_rfl) (fun _ _ _ h => h) (.inl ⟨by rfl, fun W hW => by go_simp⟩) HS.out ?_
      simp only [Act.put, List.setIfInBounds_toArray, List.set_cons_zero, List.set_cons_succ]
      refine takeH (i := 7) 37 (.pointer (some ⟨p, 0, none⟩)) rfl rfl (by kernel_rfl) (by kernel_rfl) (by kernel_rfl) (fun _ _ _ h => h) (.inl ⟨by rfl, fun W hW => by go_simp⟩) HS.out ?_
      simp only [Act.put, List.setIfInBounds_toArray, List.set_cons_zero, List.set_cons_succ]
      refine takeH (i := 8) 38 (.pointer (some ⟨p, 2, none⟩)) rfl rfl (by kernel_rfl) (by kernel_rfl) (by kernel_rfl) (fun _ _ _ h => h) (.inl ⟨by rfl, fun W hW => by go_simp⟩) HS.out ?_
      simp only [Act.put, List.setIfInBounds_toArray, List.set_cons_zero, List.set_cons_succ]
      refine takeH (i := 9) 39 (.int .i64 u.rm) rfl rfl (by kernel_rfl) (by kernel_rfl) (by kernel_rfl) (fun _ _ _ h => h) (.inl ⟨by rfl, fun W hW => by (have hz := hW.2.2; go_simp)⟩) HS.out ?_
      simp only [Act.put, List.setIfInBounds_toArray, List.set_cons_zero, List.set_cons_succ]
      refine wpAnyH_ready (rs := [4]) (by kernel_rfl) (by simp) ?_
      refine AllReadyH.cons rfl (fun K hK => ?_) AllReadyH.nil
      go_simp
      refine (HU.out _ (Below.refl _ _).drew).mono ?_
      rintro e w7 ⟨rfl, h4⟩
      have HX7 := Lib.hid (HXd.out.below h4)
      have HS7 : Hid ((fun W : World => W.cell? ⟨p, 0, none⟩ = some (.slice (some ⟨g, 0, none⟩) 24 k) ∧ W.cell? ⟨p, 1, none⟩ = some (.int .u64 (u.ch : Int)) ∧ W.cell? ⟨p, 2, none⟩ = some (.int .i64 u.rm)) w7) := ⟨HX7.out.cellR 0 _ rfl, HX7.out.cellR 1 _ rfl, HX7.out.cellR 2 _ rfl⟩
      refine hK.out _ _ HS7.out fun _ => ?_
      clear hK K h4 HU HXd
      by_cases hr : u.rm < (T : Int)
      · have hd : decide (u.rm < (T : Int)) = true := by simpa using hr
        refine takeH (i := 10) 40 (.bool true) rfl rfl (by kernel_rfl) (by kernel_rfl) (by kernel_rfl) (fun _ _ _ h => h) (.inl ⟨by rfl, fun W hW => by (go_simp)⟩) HS7.out ?_
        simp only [Act.put, List.setIfInBounds_toArray, List.set_cons_zero, List.set_cons_succ]
        refine wpAnyH_ready (rs := [11]) (by kernel_rfl) (by simp) ?_
        refine AllReadyH.cons rfl (fun K hK => ?_) AllReadyH.nil
        go_simp
        refine (refuse_yes 66 _).mono ?_
        rintro e w' ⟨rfl, rfl⟩
        exact ⟨rfl, .inr ⟨rfl, by rw [HUQ.out, ← HRM.out, ← HTT.out]; exact hr, HX7.out.bel⟩⟩
      · have hd : decide (u.rm < (T : Int)) = false := by simpa using hr
        refine takeH (i := 10) 40 (.bool false) rfl rfl (by kernel_rfl) (by kernel_rfl) (by kernel_rfl) (fun _ _ _ h => h) (.inl ⟨by rfl, fun W hW => by (go_simp)⟩) HS7.out ?_
        simp only [Act.put, List.setIfInBounds_toArray, List.set_cons_zero, List.set_cons_succ]
        refine wpAnyH_ready (rs := [11]) (by kernel_rfl) (by simp) ?_
        refine AllReadyH.cons rfl (fun K hK => ?_) AllReadyH.nil
        go_simp
        refine (refuse_no 66 _).mono ?_
        rintro e w' ⟨rfl, rfl⟩
        refine hK.out _ _ HS7.out fun _ => ?_
        refine wpAnyH_done (by kernel_rfl) ?_ _
        go_end0
        exact .inl ⟨rfl, by rw [HUQ.out, ← HRM.out, ← HTT.out]; exact hr, by rw [HUQ.out]; exact HX7.out⟩
end
end Go.Proofs.YtpbpdnjlomhkdaaGreat
