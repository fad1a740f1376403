/-
  Contract of add: a thing that is made (layer 13).
-/
import Derived.Test.YtpbpdnjlomhkdaaGreatOAdd
import Derived.Test.YtpbpdnjlomhkdaaGreatOChange
import Derived.Test.YtpbpdnjlomhkdaaGreatOFree
namespace Go.Proofs.YtpbpdnjlomhkdaaGreat
open Go.RowKit Go.Shelf

/-- What a thing is made of. -/
def thM (kind vf : Nat) (dt : List UInt8) : Vl.Th := ⟨0, kind, 0, 0, 0, 0, 0, vf, dt⟩
theorem ptrs_two (w : World) (g i j : Nat) : PtrS (w.alloc (.cells #[.pointer (some ⟨g, i * 9, none⟩), .pointer (some ⟨g, j * 9, none⟩)] 149)) g w.heap.size [i, j] := fun a ha => by
  rw [cell_of_row _ _ _ _ _ _ (heap_alloc_new w _)]
  match a, ha with
  | 0, _ => rfl
  | 1, _ => rfl
  | a + 2, ha => simp at ha; omega
namespace Op
/-- .. and the thing. -/
def thN (t : TT) (c : Cl) (kind vf : Nat) (dt : List UInt8) (k : Nat) : Vl.Th := ⟨k, kind, ((t.s k).gen + 1) % 4294967296, 1, c.md % 512, 0, 0, vf, dt⟩
theorem fresh_none {t : TT} {c : Cl} {kind vf : Nat} {dt : List UInt8} (h : lowest t = none) : fresh t c kind vf dt = .error 66 := by unfold fresh; rw [h]
theorem fresh_some {t : TT} {c : Cl} {kind vf : Nat} {dt : List UInt8} {k : Nat} (h : lowest t = some k) : fresh t c kind vf dt = match enter (set t k (thN t c kind vf dt k)) c.ati c.nm k (((t.s k).gen + 1) % 4294967296) with | .error e => .error e | .ok u => fin u (rep0 c) [k, c.ati] k := by unfold fresh; rw [h]; rfl
theorem enter_dt {t u : TT} {d : Nat} {nm : List UInt8} {a b : Nat} (h : enter t d nm a b = .ok u) (hn : ∀ i, i < 24 → (t.s i).dt.length ≤ 1000000) : ∀ i, i < 24 → (u.s i).dt.length ≤ 1000000 := fun i hi => by
  by_cases e : i = d
  · unfold enter at h
    by_cases c1 : ((t.s d).cookie + 1) % 18446744073709551616 = 0
    · rw [if_pos c1] at h; cases h
    rw [if_neg c1] at h
    by_cases c2 : addE (ents t d) (newE t d nm a b) ≠ 0
    · rw [if_pos c2] at h; cases h
    rw [if_neg c2] at h
    by_cases c3 : 768 < (putE (ents t d ++ [newE t d nm a b])).length
    · rw [if_pos c3] at h; cases h
    rw [if_neg c3] at h
    have h := Except.ok.inj h
    rw [← h, e, set_at]
    show (putE (ents t d ++ [newE t d nm a b])).length ≤ _
    omega
  · rw [enter_other h e]
    exact hn i hi
end Op
section
variable {w0 w w' : World} {p g k : Nat} {t u : Op.TT} {sl : Nat → Sl} {c : Cl} {B : Option Addr} {n d : Nat} {r r' : Rp} {D D' : Option Addr} {m e m' e' : Nat} {E E' : Option Addr} {q f q' f' : Nat} {R : Except Int Op.TT}
set_option maxRecDepth 100000 in
set_option maxHeartbeats 1000000 in
theorem add_any2 (h : RX w0 w p g k t sl c B n d (Op.rep0 c) none 0 0 none 0 0) (hs : Op.Sound t) (hd : Op.Dir t c.ati) {kind vf : Nat} {dt : List UInt8} (hkd : kind < 4294967296) (hvf : vf < 18446744073709551616) {A : Option Addr} {x y : Nat} (hb : BS w A x dt) (hc : x ≤ y) (ho : Off g A x) (hl : dt.length ≤ 1000) :
    Calls Tryz.prog 115 #[.pointer (some ⟨p, 0, none⟩), .pointer (some ⟨g, c.ati * 9, none⟩), .agg (sc (thM kind vf dt) (.slice A x y)).toArray] w (OutQ w0 p g k c B n d (Op.fresh t c kind vf dt)) := by
  have HA := Lib.hid (alloc_below w (.cells (sc (thM kind vf dt) (.slice A x y)).toArray 92))
  have HB5 : Hid (Bw (w.alloc (.cells (sc (thM kind vf dt) (.slice A x y)).toArray 92)) w.heap.size (sc (thM kind vf dt) (.slice A x y)) 92) := heap_alloc_new w _
  have HX := Lib.hid (h.below HA.out)
  have HBS := Lib.hid (hb.below HA.out)
  have HCO : Hid (x ≤ y ∧ Off g A x) := ⟨hc, ho⟩
  have HG : Hid (w.heap.size ≠ g ∧ w.heap.size ≠ p ∧ w0.heap.size ≤ w.heap.size) := by
    have h1 := h.sx.lt
    have h2 := h.run.lt
    exact ⟨by omega, by omega, h.bel.size⟩
  have HS := Lib.hid hs
  have HD := Lib.hid hd
  have HKV : Hid (kind < 4294967296 ∧ vf < 18446744073709551616 ∧ dt.length ≤ 1000) := ⟨hkd, hvf, hl⟩
  have q0 := HX.out.cellR 0 _ rfl
  obtain ⟨RR, hRR⟩ : ∃ RR, RR = Op.fresh t c kind vf dt := ⟨_, rfl⟩
  rw [← hRR]
  have HR := Lib.hid hRR
  have HIX := Lib.hid (indexFree_any (cp := k) HX.out.sx.ss)
  clear h hb hc ho hs hd hRR hkd hvf hl HA
  go_enter Tryz.func115, Tryz.ntmps115
  go_upto_region 1 with fail
  generalize w.alloc (.cells (sc (thM kind vf dt) (.slice A x y)).toArray 92) = w1 at *
  generalize w.heap.size = b5 at *
  go_wp2_with fail
  refine HIX.out.mono ?_
  rintro e w2 ⟨rfl, h2⟩
  have HX2 := Lib.hid (HX.out.below h2)
  have HB2 : Hid (Bw w2 b5 (sc (thM kind vf dt) (.slice A x y)) 92) := HB5.out.below h2
  have HBS2 := Lib.hid (HBS.out.below h2)
  clear h2 HX HB5 HBS q0 HIX
  cases hlo : Op.lowest t with
  | none =>
    have HR2 : Hid (RR = .error 66) := HR.out.trans (Op.fresh_none hlo)
    rw [show lowI t = -1 from by unfold lowI; rw [hlo]]
    clear HR
    go_wp2_with (refine (refuse_yes 66 _).mono ?_; rintro e w' ⟨rfl, rfl⟩)
    exact ⟨rfl, .no HR2.out HX2.out.bel⟩
  | some kk =>
  have HR2 := Lib.hid (HR.out.trans (Op.fresh_some hlo))
  rw [show lowI t = (kk : Int) from by unfold lowI; rw [hlo]]
  obtain ⟨hk24, hk0⟩ := low_some hlo
  have HK0 := Lib.hid hk0
  have HINO : Hid ((t.s kk).ino = kk) := HS.out.inv.may.ino kk hk24
  have q0 := HX2.out.cellR 0 _ rfl
  have s0 : w2.cell? ⟨g, kk * 9, none⟩ = some (.int .u32 ((t.s kk).ino : Int)) := HX2.out.cellS hk24 0 _ rfl
  have s2 := HX2.out.cellS hk24 2 _ rfl
  clear HR hlo hk0
  go_upto_region 4 with (refine (refuse_no 66 _).mono ?_; rintro e w' ⟨rfl, rfl⟩)
  obtain ⟨G, hG⟩ : ∃ G, G = ((t.s kk).gen + 1) % 4294967296 := ⟨_, rfl⟩
  obtain ⟨M, hM⟩ : ∃ M, M = c.md % 512 := ⟨_, rfl⟩
  have HGE : Hid (IntKind.u32.wrap (((t.s kk).gen : Int) + 1) = (G : Int)) := by show _ = _; rw [IntKind.wrap_u32, hG]; omega
  have HME : Hid ((c.md : Int) % 512 = (M : Int)) := by show _ = _; rw [hM]; omega
  have HGN := Lib.hid hG
  have HMN := Lib.hid hM
  clear hG hM
  have HXd := Lib.hid HX2.out.drew
  have HBd : Hid (Bw w2.drew b5 (sc (thM kind vf dt) (.slice A x y)) 92) := HB2.out
  have HBSd : Hid (BS w2.drew A x dt) := HBS2.out
  have HS4 : Hid ((fun W : World => W.cell? ⟨g, kk * 9, none⟩ = some (.int .u32 ((t.s kk).ino : Int)) ∧ W.cell? ⟨g, kk * 9 + 2, none⟩ = some (.int .u32 ((t.s kk).gen : Int))) w2.drew) := ⟨HXd.out.cellS hk24 0 _ rfl, HXd.out.cellS hk24 2 _ rfl⟩
  have HBX : Hid (∀ W a v, (RX w0 W p g k t sl c B n d (Op.rep0 c) none 0 0 none 0 0) → (∀ o z, W.cell? ⟨b5, o, none⟩ ≠ some (.int .u8 z)) → RX w0 (W.setCell ⟨b5, a, none⟩ v) p g k t sl c B n d (Op.rep0 c) none 0 0 none 0 0) := fun W a v hx h8 => by
    have hk : Keep (· ≠ b5) W (W.setCell ⟨b5, a, none⟩ v) := (Keep.refl _ W).setCell (p := ⟨b5, a, none⟩) (fun h => h rfl) v
    exact ⟨hx.bel.trans (hk.below2 (fun j hj => by have := HG.out.2.2; omega)), hx.pos, hx.run.keep hk (Ne.symm HG.out.2.1), hx.sx.other HG.out.1 h8 hk, hx.data⟩
  have HN8 : Hid (∀ W (s : Vl.Th) A x y, Bw W b5 (sc s (.slice A x y)) 92 → ∀ o z, W.cell? ⟨b5, o, none⟩ ≠ some (.int .u8 z)) := fun W s A x y hw o z hz => by
    rw [cell_of_row _ _ _ _ _ _ hw] at hz
    match o, hz with
    | 0, hz | 1, hz | 2, hz | 3, hz | 4, hz | 5, hz | 6, hz | 7, hz | 8, hz => simp [sc] at hz
    | o + 9, hz => simp [sc] at hz
  have HOB : Hid (∀ W a v (s : Vl.Th), Bw W b5 (sc s (.slice A x y)) 92 → BS W A x dt → BS (W.setCell ⟨b5, a, none⟩ v) A x dt) := fun W a v s hw hb => hb.off (HN8.out W s A x y hw) (fun j _ hj => Below.heap_setCell W ⟨b5, a, none⟩ v j hj)
  clear HX2 HB2 HBS2 q0 s0 s2
  refine wp_region_held_drew (S := (fun W : World => W.cell? ⟨g, kk * 9, none⟩ = some (.int .u32 ((t.s kk).ino : Int)) ∧ W.cell? ⟨g, kk * 9 + 2, none⟩ = some (.int .u32 ((t.s kk).gen : Int)))) (by kernel_rfl) HS4.out (fun _ => ?_)
  change wpAnyH _ _ _ _ _ 13 (Array.replicate 13 false) _ _
  generalize w2.drew = wd at *
  have HSS := Lib.hid HS4.out
  refine takeH (i := 0) 24 (.pointer (some ⟨g, kk * 9, none⟩)) rfl rfl (by kernel_rfl) (by kernel_rfl) (by kernel_rfl) (fun _ _ _ h => h) (.inl ⟨by rfl, fun W hW => by go_simp⟩) HSS.out ?_
  simp only [Act.put, List.setIfInBounds_toArray, List.set_cons_zero, List.set_cons_succ]
  refine takeH (i := 1) 25 (.pointer (some ⟨g, kk * 9, none⟩)) rfl rfl (by kernel_rfl) (by kernel_rfl) (by kernel_rfl) (fun _ _ _ h => h) (.inl ⟨by rfl, fun W hW => by go_simp⟩) HSS.out ?_
  simp only [Act.put, List.setIfInBounds_toArray, List.set_cons_zero, List.set_cons_succ]
  refine takeH (i := 2) 26 (.pointer (some ⟨g, kk * 9, none⟩)) rfl rfl (by kernel_rfl) (by kernel_rfl) (by kernel_rfl) (fun _ _ _ h => h) (.inl ⟨by rfl, fun W hW => by go_simp⟩) HSS.out ?_
  simp only [Act.put, List.setIfInBounds_toArray, List.set_cons_zero, List.set_cons_succ]
  refine takeH (i := 3) 27 (.int .u32 ((t.s kk).ino : Int)) rfl rfl (by kernel_rfl) (by kernel_rfl) (by kernel_rfl) (fun _ _ _ h => h) (.inl ⟨by rfl, fun W hW => by (have hz := hW.1; go_simp)⟩) HSS.out ?_
  simp only [Act.put, List.setIfInBounds_toArray, List.set_cons_zero, List.set_cons_succ]
  refine takeH (i := 4) 28 (.pointer (some ⟨g, kk * 9, none⟩)) rfl rfl (by kernel_rfl) (by kernel_rfl) (by kernel_rfl) (fun _ _ _ h => h) (.inl ⟨by rfl, fun W hW => by go_simp⟩) HSS.out ?_
  simp only [Act.put, List.setIfInBounds_toArray, List.set_cons_zero, List.set_cons_succ]
  refine takeH (i := 5) 29 (.pointer (some ⟨g, kk * 9, none⟩)) rfl rfl (by kernel_rfl) (by kernel_rfl) (by kernel_rfl) (fun _ _ _ h => h) (.inl ⟨by rfl, fun W hW => by go_simp⟩) HSS.out ?_
  simp only [Act.put, List.setIfInBounds_toArray, List.set_cons_zero, List.set_cons_succ]
  refine takeH (i := 6) 30 (.pointer (some ⟨g, kk * 9 + 2, none⟩)) rfl rfl (by kernel_rfl) (by kernel_rfl) (by kernel_rfl) (fun _ _ _ h => h) (.inl ⟨by rfl, fun W hW => by go_simp⟩) HSS.out ?_
  simp only [Act.put, List.setIfInBounds_toArray, List.set_cons_zero, List.set_cons_succ]
  refine takeH (i := 7) 31 (.int .u32 ((t.s kk).gen : Int)) rfl rfl (by kernel_rfl) (by kernel_rfl) (by kernel_rfl) (fun _ _ _ h => h) (.inl ⟨by rfl, fun W hW => by (have hz := hW.2; go_simp)⟩) HSS.out ?_
  simp only [Act.put, List.setIfInBounds_toArray, List.set_cons_zero, List.set_cons_succ]
  refine takeH (i := 8) 32 (.int .u32 (G : Int)) rfl rfl (by kernel_rfl) (by kernel_rfl) (by kernel_rfl) (fun _ _ _ h => h) (.inl ⟨by rfl, fun W hW => by (go_simp; exact HGE.out)⟩) HSS.out ?_
  simp only [Act.put, List.setIfInBounds_toArray, List.set_cons_zero, List.set_cons_succ]
  refine takeH (i := 9) 33 (.pointer (some ⟨b5, 0, none⟩)) rfl rfl (by kernel_rfl) (by kernel_rfl) (by kernel_rfl) (fun _ _ _ h => h) (.inl ⟨by rfl, fun W hW => by go_simp⟩) HSS.out ?_
  simp only [Act.put, List.setIfInBounds_toArray, List.set_cons_zero, List.set_cons_succ]
  refine wpAnyH_ready (rs := [10]) (by kernel_rfl) (by simp) ?_
  refine AllReadyH.cons rfl (fun K hK => ?_) AllReadyH.nil
  have kb := HBd.out.cell 0 _ rfl
  have fb := HBd.out.froz 0
  go_simp
  have HXa := Lib.hid (HBX.out _ 0 (.int .u32 ((t.s kk).ino : Int)) HXd.out (HN8.out _ _ _ _ _ HBd.out))
  have HBa : Hid (Bw (wd.setCell ⟨b5, 0, none⟩ (.int .u32 ((t.s kk).ino : Int))) b5 (sc { thM kind vf dt with ino := (t.s kk).ino } (.slice A x y)) 92) := HBd.out.set 0 _
  have HDa := Lib.hid (HOB.out _ 0 (.int .u32 ((t.s kk).ino : Int)) _ HBd.out HBSd.out)
  have HSa : Hid ((fun W : World => W.cell? ⟨g, kk * 9, none⟩ = some (.int .u32 ((t.s kk).ino : Int)) ∧ W.cell? ⟨g, kk * 9 + 2, none⟩ = some (.int .u32 ((t.s kk).gen : Int))) (wd.setCell ⟨b5, 0, none⟩ (.int .u32 ((t.s kk).ino : Int)))) := ⟨HXa.out.cellS hk24 0 _ rfl, HXa.out.cellS hk24 2 _ rfl⟩
  refine hK.out _ _ HSa.out fun _ => ?_
  generalize wd.setCell ⟨b5, 0, none⟩ (.int .u32 ((t.s kk).ino : Int)) = w3 at *
  clear hK K kb fb HXd HBd HBSd HSS HS4
  refine takeH (i := 11) 34 (.pointer (some ⟨b5, 2, none⟩)) rfl rfl (by kernel_rfl) (by kernel_rfl) (by kernel_rfl) (fun _ _ _ h => h) (.inl ⟨by rfl, fun W hW => by go_simp⟩) HSa.out ?_
  simp only [Act.put, List.setIfInBounds_toArray, List.set_cons_zero, List.set_cons_succ]
  refine wpAnyH_ready (rs := [12]) (by kernel_rfl) (by simp) ?_
  refine AllReadyH.cons rfl (fun K hK => ?_) AllReadyH.nil
  have kb := HBa.out.cell 2 _ rfl
  have fb := HBa.out.froz 2
  go_simp
  have HXe := Lib.hid (HBX.out _ 2 (.int .u32 (G : Int)) HXa.out (HN8.out _ _ _ _ _ HBa.out))
  have HBe : Hid (Bw (w3.setCell ⟨b5, 2, none⟩ (.int .u32 (G : Int))) b5 (sc { thM kind vf dt with ino := (t.s kk).ino, gen := G } (.slice A x y)) 92) := HBa.out.set 2 _
  have HDe := Lib.hid (HOB.out _ 2 (.int .u32 (G : Int)) _ HBa.out HDa.out)
  have HSe : Hid ((fun W : World => W.cell? ⟨g, kk * 9, none⟩ = some (.int .u32 ((t.s kk).ino : Int)) ∧ W.cell? ⟨g, kk * 9 + 2, none⟩ = some (.int .u32 ((t.s kk).gen : Int))) (w3.setCell ⟨b5, 2, none⟩ (.int .u32 (G : Int)))) := ⟨HXe.out.cellS hk24 0 _ rfl, HXe.out.cellS hk24 2 _ rfl⟩
  refine hK.out _ _ HSe.out fun _ => ?_
  generalize w3.setCell ⟨b5, 2, none⟩ (.int .u32 (G : Int)) = w4 at *
  clear hK K kb fb HXa HBa HDa HSa HSe
  refine wpAnyH_done (by kernel_rfl) ?_ _
  go_upto_region 5 with fail
  have HXf := Lib.hid HXe.out.drew
  have HBf : Hid (Bw w4.drew b5 (sc { thM kind vf dt with ino := (t.s kk).ino, gen := G } (.slice A x y)) 92) := HBe.out
  have HDf : Hid (BS w4.drew A x dt) := HDe.out
  have HSb : Hid ((fun W : World => W.cell? ⟨p, 15, none⟩ = some (.int .u32 (c.md : Int))) w4.drew) := HXf.out.cellR 15 _ rfl
  clear HXe HBe HDe
  refine wp_region_held_drew (S := (fun W : World => W.cell? ⟨p, 15, none⟩ = some (.int .u32 (c.md : Int)))) (by kernel_rfl) HSb.out (fun _ => ?_)
  change wpAnyH _ _ _ _ _ 10 (Array.replicate 10 false) _ _
  generalize w4.drew = we at *
  refine takeH (i := 0) 35 (.pointer (some ⟨p, 0, none⟩)) rfl rfl (by kernel_rfl) (by kernel_rfl) (by kernel_rfl) (fun _ _ _ h => h) (.inl ⟨by rfl, fun W hW => by go_simp⟩) HSb.out ?_
  simp only [Act.put, List.setIfInBounds_toArray, List.set_cons_zero, List.set_cons_succ]
  refine takeH (i := 1) 36 (.pointer (some ⟨p, 0, none⟩)) rfl rfl (by kernel_rfl) (by kernel_rfl) (by kernel_rfl) (fun _ _ _ h => h) (.inl ⟨by rfl, fun W hW => by go_simp⟩) HSb.out ?_
  simp only [Act.put, List.setIfInBounds_toArray, List.set_cons_zero, List.set_cons_succ]
  refine takeH (i := 2) 37 (.pointer (some ⟨p, 3, none⟩)) rfl rfl (by kernel_rfl) (by kernel_rfl) (by kernel_rfl) (fun _ _ _ h => h) (.inl ⟨by rfl, fun W hW => by go_simp⟩) HSb.out ?_
  simp only [Act.put, List.setIfInBounds_toArray, List.set_cons_zero, List.set_cons_succ]
  refine takeH (i := 3) 38 (.pointer (some ⟨p, 15, none⟩)) rfl rfl (by kernel_rfl) (by kernel_rfl) (by kernel_rfl) (fun _ _ _ h => h) (.inl ⟨by rfl, fun W hW => by go_simp⟩) HSb.out ?_
  simp only [Act.put, List.setIfInBounds_toArray, List.set_cons_zero, List.set_cons_succ]
  refine takeH (i := 4) 39 (.int .u32 (c.md : Int)) rfl rfl (by kernel_rfl) (by kernel_rfl) (by kernel_rfl) (fun _ _ _ h => h) (.inl ⟨by rfl, fun W hW => by (have hz := hW; go_simp)⟩) HSb.out ?_
  simp only [Act.put, List.setIfInBounds_toArray, List.set_cons_zero, List.set_cons_succ]
  refine takeH (i := 5) 40 (.int .u32 (M : Int)) rfl rfl (by kernel_rfl) (by kernel_rfl) (by kernel_rfl) (fun _ _ _ h => h) (.inl ⟨by rfl, fun W hW => by (go_simp; exact HME.out)⟩) HSb.out ?_
  simp only [Act.put, List.setIfInBounds_toArray, List.set_cons_zero, List.set_cons_succ]
  refine takeH (i := 6) 41 (.pointer (some ⟨b5, 3, none⟩)) rfl rfl (by kernel_rfl) (by kernel_rfl) (by kernel_rfl) (fun _ _ _ h => h) (.inl ⟨by rfl, fun W hW => by go_simp⟩) HSb.out ?_
  simp only [Act.put, List.setIfInBounds_toArray, List.set_cons_zero, List.set_cons_succ]
  refine wpAnyH_ready (rs := [7]) (by kernel_rfl) (by simp) ?_
  refine AllReadyH.cons rfl (fun K hK => ?_) AllReadyH.nil
  have kb := HBf.out.cell 3 _ rfl
  have fb := HBf.out.froz 3
  go_simp
  have HXg := Lib.hid (HBX.out _ 3 (.int .u32 1) HXf.out (HN8.out _ _ _ _ _ HBf.out))
  have HBg : Hid (Bw (we.setCell ⟨b5, 3, none⟩ (.int .u32 1)) b5 (sc { thM kind vf dt with ino := (t.s kk).ino, gen := G, links := 1 } (.slice A x y)) 92) := HBf.out.set 3 _
  have HDg := Lib.hid (HOB.out _ 3 (.int .u32 1) _ HBf.out HDf.out)
  have HSc : Hid ((fun W : World => W.cell? ⟨p, 15, none⟩ = some (.int .u32 (c.md : Int))) (we.setCell ⟨b5, 3, none⟩ (.int .u32 1))) := HXg.out.cellR 15 _ rfl
  refine hK.out _ _ HSc.out fun _ => ?_
  generalize we.setCell ⟨b5, 3, none⟩ (.int .u32 1) = w5 at *
  clear hK K kb fb HXf HBf HDf HSb
  refine takeH (i := 8) 42 (.pointer (some ⟨b5, 4, none⟩)) rfl rfl (by kernel_rfl) (by kernel_rfl) (by kernel_rfl) (fun _ _ _ h => h) (.inl ⟨by rfl, fun W hW => by go_simp⟩) HSc.out ?_
  simp only [Act.put, List.setIfInBounds_toArray, List.set_cons_zero, List.set_cons_succ]
  refine wpAnyH_ready (rs := [9]) (by kernel_rfl) (by simp) ?_
  refine AllReadyH.cons rfl (fun K hK => ?_) AllReadyH.nil
  have kb := HBg.out.cell 4 _ rfl
  have fb := HBg.out.froz 4
  go_simp
  have HXh := Lib.hid (HBX.out _ 4 (.int .u32 (M : Int)) HXg.out (HN8.out _ _ _ _ _ HBg.out))
  have HBh : Hid (Bw (w5.setCell ⟨b5, 4, none⟩ (.int .u32 (M : Int))) b5 (sc { thM kind vf dt with ino := (t.s kk).ino, gen := G, links := 1, mode := M } (.slice A x y)) 92) := HBg.out.set 4 _
  have HDh := Lib.hid (HOB.out _ 4 (.int .u32 (M : Int)) _ HBg.out HDg.out)
  have HSh : Hid ((fun W : World => W.cell? ⟨p, 15, none⟩ = some (.int .u32 (c.md : Int))) (w5.setCell ⟨b5, 4, none⟩ (.int .u32 (M : Int)))) := HXh.out.cellR 15 _ rfl
  refine hK.out _ _ HSh.out fun _ => ?_
  generalize w5.setCell ⟨b5, 4, none⟩ (.int .u32 (M : Int)) = w6 at *
  clear hK K kb fb HXg HBg HDg HSc HSh
  refine wpAnyH_done (by kernel_rfl) ?_ _
  have HBi : Hid (Bw w6 b5 (sc (Op.thN t c kind vf dt kk) (.slice A x y)) 92) := by
    have := HBh.out
    rw [HINO.out, HGN.out, HMN.out] at this
    exact this
  clear HBh HBX HN8 HOB
  obtain ⟨rest, hrow⟩ := HXh.out.sx.row
  have HROW := Lib.hid hrow
  have hkl := kro_len t.s sl 24
  clear hrow
  go_upto_region 7 with (first
    | (refine wpList_load_part rfl 92 (.tmp 5) rfl b5 0 rfl _ Tryz.underlying92 rfl (sc (Op.thN t c kind vf dt kk) (.slice A x y)) 92 _ HBi.out size_Sl (fun j u hu => by rw [Nat.zero_add]; exact hu) ?_)
    | (refine wpList_store_part rfl 92 (.tmp 45) (.tmp 44) rfl g (kk * 9) (sc (Op.thN t c kind vf dt kk) (.slice A x y)) rfl rfl 92 _ HROW.out size_Sl (by simp [sc, hkl]; omega) (sc_row _ _ _ _) ?_
       intro w7 hb7 hs7 hk7))
  have HX7 : Hid (RX w0 w7 p g k (Op.set t kk (Op.thN t c kind vf dt kk)) (Vl.upd sl kk ⟨A, x, y⟩) c B n d (Op.rep0 c) none 0 0 none 0 0) := HXh.out.putSlot hk7 hk24 hb7 HDh.out HCO.out.1 HCO.out.2
  clear hb7 hs7 hk7 HROW HXh HDh HBi hkl
  have hai : c.ati ≠ kk := fun e => by
    have h1 := HD.out.kind
    rw [e, HK0.out] at h1
    cases h1
  have HD7 : Hid (Op.Dir (Op.set t kk (Op.thN t c kind vf dt kk)) c.ati) := ⟨HD.out.lt, by rw [Op.set_other t _ hai]; exact HD.out.ok, by rw [Op.set_other t _ hai]; exact HD.out.kind⟩
  have HW7 : Hid (((Op.set t kk (Op.thN t c kind vf dt kk)).s c.ati).Wide ∧ ((Op.set t kk (Op.thN t c kind vf dt kk)).s kk).Wide ∧ ((Op.set t kk (Op.thN t c kind vf dt kk)).s kk).ino = kk ∧ ((Op.set t kk (Op.thN t c kind vf dt kk)).s kk).gen = ((t.s kk).gen + 1) % 4294967296) := by
    refine ⟨by rw [Op.set_other t _ hai]; exact HS.out.inv.wide _ HD.out.lt, ?_, by rw [Op.set_at]; rfl, by rw [Op.set_at]; rfl⟩
    rw [Op.set_at]
    have := HKV.out
    exact ⟨Nat.mod_lt _ (by omega), by show 1 < _; omega, by show c.md % 512 < _; omega, by show 0 < _; omega, by show 0 < _; omega, by show vf < _; omega⟩
  have HN7 : Hid (∀ i, i < 24 → ((Op.set t kk (Op.thN t c kind vf dt kk)).s i).dt.length ≤ 1000000) := fun i hi => by
    by_cases e : i = kk
    · subst e; rw [Op.set_at]; have := HKV.out; show dt.length ≤ _; omega
    · rw [Op.set_other t _ e]
      have := (Vl.okB_facts (HS.out.inv.may.ok i hi)).2.2
      omega
  have HADD := Lib.hid (addEntry_any HX7.out HD7.out hk24 HW7.out.1 HW7.out.2.1 (by rw [HW7.out.2.2.1]; omega) c.nm)
  rw [HW7.out.2.2.1, HW7.out.2.2.2] at HADD
  have q8 := HX7.out.cellR 8 _ rfl
  have HAI := Lib.hid HD.out.lt
  generalize Op.set t kk (Op.thN t c kind vf dt kk) = t1 at *
  clear HD7 HW7 HX7 HS HD HINO HK0 HKV HCO hai
  go_wp2_with fail
  refine HADD.out.mono ?_
  rintro e w8 hq
  have HQ := Lib.hid hq
  clear hq HADD q8
  cases he : Op.enter t1 c.ati c.nm kk (((t.s kk).gen + 1) % 4294967296) with
  | error z =>
    rw [he] at HQ HR2
    obtain ⟨rfl, hb⟩ := HQ.out
    exact ⟨rfl, .no HR2.out hb⟩
  | ok u =>
  rw [he] at HQ HR2
  have HN8 := Lib.hid (Op.enter_dt he HN7.out)
  obtain ⟨rfl, sl8, hx, _⟩ := HQ.out
  have HX8 := Lib.hid hx
  have HR3 : Hid (RR = Op.fin u (Op.rep0 c) [kk, c.ati] kk) := HR2.out
  clear HQ hx he HN7 HR2
  have HB9 := Lib.hid (alloc_below w8 (.cells #[.pointer (some ⟨g, kk * 9, none⟩), .pointer (some ⟨g, c.ati * 9, none⟩)] 149))
  have HX9 := Lib.hid (HX8.out.below HB9.out)
  have HP9 : Hid (PtrS (w8.alloc (.cells #[.pointer (some ⟨g, kk * 9, none⟩), .pointer (some ⟨g, c.ati * 9, none⟩)] 149)) g w8.heap.size [kk, c.ati]) := ptrs_two w8 g kk c.ati
  have HNE9 : Hid (w8.heap.size ≠ p ∧ w8.heap.size ≠ g) := by
    have h1 := HX8.out.sx.lt
    have h2 := HX8.out.run.lt
    exact ⟨by omega, by omega⟩
  have HCH := Lib.hid (change_any (kc := 2) HX9.out HP9.out HNE9.out (fun i hi => by
    rcases List.mem_cons.1 hi with h | h
    · rw [h]; exact hk24
    · rw [List.mem_singleton.1 h]; exact HAI.out) (by show 2 ≤ 10; omega) HN8.out)
  clear HB9 HX9 HP9 HNE9 HN8 HX8
  go_wp2_with fail
  refine HCH.out.mono ?_
  rintro e w10 (⟨rfl, h1, h2⟩ | ⟨rfl, h1, h2⟩)
  rotate_left
  · exact ⟨rfl, .no (HR3.out.trans (if_pos h1)) h2⟩
  have HR4 : Hid (RR = .ok (Op.touch u [kk, c.ati], Op.told (Op.touch u [kk, c.ati]) (Op.rep0 c) kk)) := HR3.out.trans (if_neg h1)
  have HRE := Lib.hid (report_any h2 hk24)
  clear h1 h2 HCH HR3
  generalize Op.touch u [kk, c.ati] = v at *
  go_wp2_with fail
  refine HRE.out.mono ?_
  rintro e w11 ⟨rfl, h1, h2⟩
  have HX11 := Lib.hid h1
  clear h1 h2 HRE
  go_wp2_with fail
  go_end0
  exact .ok HR4.out HX11.out (RM.none rfl rfl)
end
end Go.Proofs.YtpbpdnjlomhkdaaGreat
