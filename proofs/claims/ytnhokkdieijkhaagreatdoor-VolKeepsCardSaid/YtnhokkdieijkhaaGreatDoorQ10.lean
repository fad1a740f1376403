/-
  Contract of store (layer 12): a thing is laid on the first free blocks.
  Contract of replace (layer 12): what some have is given back, then each is laid.
  Contract of Save (layer 12).
-/
import Derived.Test.YtnhokkdieijkhaaGreatDoorQ9
import Derived.Laws.EntriesVeiled
namespace Go.Proofs.YtnhokkdieijkhaaGreatDoor
open Go.RowKit Go.Shelf
attribute [local go_sem] Oper.semAt_some

/-- Five boxes that store makes: the first three hold what it is handed. -/
structure B5 (w : World) (p : Nat) (AT : Option Addr) (nT cT : Nat) (s : Vl.Th) (v : Value) (z : Value) (e : Int) (W : World) : Prop where
  bel : Below w.heap.size w W
  b0 : Bw W w.heap.size [.pointer (some ⟨p, 0, none⟩)] 24
  b1 : Bw W (w.heap.size + 1) [.slice AT nT cT] 30
  b2 : Bw W (w.heap.size + 2) (sc s v) 32
  b3 : Bw W (w.heap.size + 3) [z] 30
  b4 : Bw W (w.heap.size + 4) [.int .i64 e] 34
theorem B5.below {w W W' : World} {p : Nat} {AT : Option Addr} {nT cT : Nat} {s : Vl.Th} {v z : Value} {e : Int} (h : B5 w p AT nT cT s v z e W) (hb : Below W.heap.size W W') : B5 w p AT nT cT s v z e W' :=
  ⟨h.bel.trans (hb.mono h.bel.size), h.b0.below hb, h.b1.below hb, h.b2.below hb, h.b3.below hb, h.b4.below hb⟩
theorem B5.start (w : World) (p : Nat) (AT : Option Addr) (nT cT : Nat) (s : Vl.Th) (v : Value) :
    B5 w p AT nT cT s v (.slice none 0 0) 0 (((((w.alloc (.cells #[.pointer (some ⟨p, 0, none⟩)] 24)).alloc (.cells #[.slice AT nT cT] 30)).alloc (.cells (sc s v).toArray 32)).alloc (.cells #[.slice none 0 0] 30)).alloc (.cells #[.int .i64 0] 34)) := by
  have e1 := heap_alloc_new w (.cells #[.pointer (some ⟨p, 0, none⟩)] 24)
  have e2 := heap_alloc_new (w.alloc (.cells #[.pointer (some ⟨p, 0, none⟩)] 24)) (.cells #[.slice AT nT cT] 30)
  have e3 := heap_alloc_new ((w.alloc (.cells #[.pointer (some ⟨p, 0, none⟩)] 24)).alloc (.cells #[.slice AT nT cT] 30)) (.cells (sc s v).toArray 32)
  have e4 := heap_alloc_new (((w.alloc (.cells #[.pointer (some ⟨p, 0, none⟩)] 24)).alloc (.cells #[.slice AT nT cT] 30)).alloc (.cells (sc s v).toArray 32)) (.cells #[.slice none 0 0] 30)
  have e5 := heap_alloc_new ((((w.alloc (.cells #[.pointer (some ⟨p, 0, none⟩)] 24)).alloc (.cells #[.slice AT nT cT] 30)).alloc (.cells (sc s v).toArray 32)).alloc (.cells #[.slice none 0 0] 30)) (.cells #[.int .i64 0] 34)
  simp only [World.size_alloc] at e2 e3 e4 e5
  have al : ∀ (W : World) (o : Obj) (k : Nat) (v : Obj), k < W.heap.size → W.heap[k]? = some v → (W.alloc o).heap[k]? = some v := fun W o k v hk h => (Below.heap_alloc W o k hk).trans h
  refine ⟨(((((Below.refl _ _).alloc (Nat.le_refl _) _).alloc (by simp) _).alloc (by simp only [World.size_alloc]; omega) _).alloc (by simp only [World.size_alloc]; omega) _).alloc (by simp only [World.size_alloc]; omega) _, ?_, ?_, ?_, ?_, e5⟩
  · exact al _ _ _ _ (by simp only [World.size_alloc]; omega) (al _ _ _ _ (by simp only [World.size_alloc]; omega) (al _ _ _ _ (by simp only [World.size_alloc]; omega) (al _ _ _ _ (by simp only [World.size_alloc]; omega) e1)))
  · exact al _ _ _ _ (by simp only [World.size_alloc]; omega) (al _ _ _ _ (by simp only [World.size_alloc]; omega) (al _ _ _ _ (by simp only [World.size_alloc]; omega) e2))
  · exact al _ _ _ _ (by simp only [World.size_alloc]; omega) (al _ _ _ _ (by simp only [World.size_alloc]; omega) e3)
  · exact al _ _ _ _ (by simp only [World.size_alloc]; omega) e4

section
variable {w : World} {p m : Nat} {x : Sl} {S : Nat → Prop} {X : TX}
set_option maxRecDepth 100000 in
set_option maxHeartbeats 1000000 in
theorem inodeOf_any (s : Vl.Th) (A : Option Addr) (n c : Nat) (w : World) (hn : s.dt.length = n) (hf : n ≤ 100000) : Calls Tryz.prog 91 #[.agg (sc s (.slice A n c)).toArray] w
    fun e w' => e = .returned (.agg (nic (Vl.nd s []) (.slice none 0 0)).toArray) ∧ Below w.heap.size w w' := by
  subst hn
  have hw : (s.dt.length : Int) % 4294967296 = (s.dt.length : Int) := Int.emod_eq_of_lt (by omega) (by omega)
  unfold sc
  go_enter Tryz.func91, Tryz.ntmps91
  go_upto_region 1 with (refine wpList_alloc_any rfl 85 rfl _ zero_I ?_; intro w1 hb1 hs1 hw1)
  simp only [World.size_alloc] at hb1 hs1 hw1
  have HR : Hid (Bw w1 (w.heap.size + 1) zI 85) := hb1
  have hN : Bw w1 w.heap.size (sc s (.slice A s.dt.length c)) 32 := (hw1.block _ (by omega)).trans (heap_alloc_new w _)
  have HW : Hid (Below w.heap.size w w1) := ((Below.refl _ _).alloc (Nat.le_refl _) _).trans (hw1.mono (by omega))
  have k1 := hN.cell 1 _ rfl
  have k2 := hN.cell 2 _ rfl
  have k3 := hN.cell 3 _ rfl
  have k4 := hN.cell 4 _ rfl
  have k5 := hN.cell 5 _ rfl
  have k6 := hN.cell 6 _ rfl
  have k7 := hN.cell 7 _ rfl
  have k8 := hN.cell 8 _ rfl
  clear hb1 hs1 hw1 hN
  have hblt : ∀ a b d e f : Nat, ∀ g h i : Nat, Tryz.prog.built 85 [(0, .int .u32 (a : Int)), (1, .int .u32 (b : Int)), (2, .int .u32 (d : Int)), (3, .int .u32 (e : Int)), (4, .int .u32 (f : Int)), (5, .int .u64 (g : Int)), (6, .int .u64 (h : Int)), (7, .int .u64 (i : Int))] = some #[.int .u32 (a : Int), .int .u32 (b : Int), .int .u32 (d : Int), .int .u32 (e : Int), .int .u32 (f : Int), .int .u64 (g : Int), .int .u64 (h : Int), .int .u64 (i : Int), .slice none 0 0] := fun a b d e f g h i => by kernel_rfl
  go_wp2_with (refine wpList_store_part rfl 85 (.tmp 2) (.tmp 21) rfl (w.heap.size + 1) 0 (nic (Vl.nd s []) (.slice none 0 0)) rfl rfl 85 _ HR.out size_N (by simp [nic, zI]) (nic_row _ _ _ _) ?_
               intro y hb _ hk
               have HB := Lib.hid hb
               have HK := Lib.hid hk
               clear hb hk)
  exact bodyPost_ret (results_one rfl _ y (w.heap.size + 1) HB.out size_N (by rfl) Tryz.underlying85) rfl ⟨rfl, HW.out.trans (HK.out.below2 (fun k hk => by omega))⟩
theorem run_loadVar_one {t : TypeId} {d : TypeDesc} (hu : Tryz.prog.underlying t = some d) (hd : (match d with | .struct _ | .array _ _ => true | _ => false) = false) (w : World) (a : Addr) (v : Value) (h : w.cell? a = some v) : (loadVar t a).run Tryz.prog w = .ok v w := by
  have h1 : (isAgg t).run Tryz.prog w = .ok false w := by
    unfold isAgg
    cases d <;> first | (simp at hd; done) | simp [run_underlying hu, Result.andThen]
  simp [loadVar, h1, h, Result.andThen]
/-- Two results that lie in cells. -/
theorem results_cells2 {fn : Func} {p q : Tmp} {t u : TypeId} {d e : TypeDesc} (h : fn.results = #[.cell p t, .cell q u]) (tmps : Array Value) (w : World) (a b : Addr) (va vb : Value) (hu : Tryz.prog.underlying t = some d) (hd : (match d with | .struct _ | .array _ _ => true | _ => false) = false)
    (hu2 : Tryz.prog.underlying u = some e) (hd2 : (match e with | .struct _ | .array _ _ => true | _ => false) = false) (hp : tmps.getD p undef = .pointer (some a)) (hq : tmps.getD q undef = .pointer (some b)) (ha : w.cell? a = some va) (hb : w.cell? b = some vb) :
    (results fn tmps).run Tryz.prog w = .ok (.tuple #[va, vb]) w := by
  have hp' : tmps[p]?.getD undef = .pointer (some a) := by simpa using hp
  have hq' : tmps[q]?.getD undef = .pointer (some b) := by simpa using hq
  have hl := run_loadVar_one hu hd w a va ha
  have hl2 := run_loadVar_one hu2 hd2 w b vb hb
  simp [results, h, hp', hq', asAddr, hl, hl2]
/-- The drawn numbers lie in a box of their own. -/
theorem B5.fin {w W : World} {p : Nat} {AT : Option Addr} {nT cT : Nat} {s : Vl.Th} {v z : Value} {e : Int} (h : B5 w p AT nT cT s v z e W) {gD : Nat} (hg : Bw W gD [.slice none 0 0] 112) {A0 : Option Addr} {k0 : Nat} {dr : List Nat} (hn : BNS W A0 k0 dr) (hlt : w.heap.size + 4 < gD) (A5 : Option Addr) (k5 c5 : Nat) :
    B5 w p AT nT cT s v z e (W.setCell ⟨gD, 0, none⟩ (.slice A5 k5 c5)) ∧ Bw (W.setCell ⟨gD, 0, none⟩ (.slice A5 k5 c5)) gD [.slice A5 k5 c5] 112 ∧ BNS (W.setCell ⟨gD, 0, none⟩ (.slice A5 k5 c5)) A0 k0 dr := by
  refine ⟨⟨h.bel.setCell (p := ⟨gD, 0, none⟩) (by show w.heap.size ≤ gD; omega) _, h.b0.off (by show w.heap.size ≠ gD; omega) _, h.b1.off (by show w.heap.size + 1 ≠ gD; omega) _, h.b2.off (by show w.heap.size + 2 ≠ gD; omega) _, h.b3.off (by show w.heap.size + 3 ≠ gD; omega) _, h.b4.off (by show w.heap.size + 4 ≠ gD; omega) _⟩, hg.set 0 _, hn.1, fun h0 => ?_⟩
  obtain ⟨b, o, e1, hc⟩ := hn.2 h0
  refine ⟨b, o, e1, fun j hj => ?_⟩
  have hb : b ≠ gD := by
    rintro rfl
    have := hc j hj
    rw [cell_of_row _ _ _ _ _ _ hg] at this
    match h9 : o + j with
    | 0 => rw [h9] at this; simp at this
    | n + 1 => rw [h9] at this; simp at this
  rw [← hc j hj]
  exact World.cell?_of_block (Below.heap_setCell _ _ _ _ hb)
/-- A part of a slice. -/
theorem BS.pv {w : World} {A : Option Addr} {n : Nat} {l : List UInt8} (h : BS w A n l) (k : Nat) : BS w (A.map (·.add (96 * k))) (min 96 (n - 96 * k)) (Vl.part l k) := by
  have hl := h.1
  refine ⟨by rw [Vl.part_len, hl], fun hn => ?_⟩
  obtain ⟨b, o, e, hc⟩ := h.2 (by omega)
  refine ⟨b, o + 96 * k, by rw [e]; simp only [Option.map_some, add_plain], fun j hj => ?_⟩
  rw [Vl.part_len, hl] at hj
  have := hc (96 * k + j) (by omega)
  rw [show o + 96 * k + j = o + (96 * k + j) by omega, this]
  simp only [Vl.part, List.getElem_take, List.getElem_drop]
theorem BNS.kept {K : Nat → Prop} {w w' : World} {A : Option Addr} {n : Nat} {l : List Nat} (h : BNS w A n l) (hk : Keep K w w') (hK : ∀ b o z, w.cell? ⟨b, o, none⟩ = some (.int .i64 z) → K b) : BNS w' A n l :=
  ⟨h.1, fun hn => by
    obtain ⟨b, o, e, hc⟩ := h.2 hn
    exact ⟨b, o, e, fun j hj => (World.cell?_of_block (a := ⟨b, o + j, none⟩) (hk.block b (hK b _ _ (hc j hj)))).trans (hc j hj)⟩⟩
theorem nic_no64 {w : World} {g : Nat} {x : Nd} {A : Option Addr} {n c : Nat} {t : TypeId} (h : Bw w g (nic x (.slice A n c)) t) : ∀ o z, w.cell? ⟨g, o, none⟩ ≠ some (.int .i64 z) := by
  intro o z e
  rw [cell_of_row _ _ _ _ _ _ h] at e
  match o with
  | 0 | 1 | 2 | 3 | 4 | 5 | 6 | 7 | 8 => simp [nic] at e
  | k + 9 => simp [nic] at e
theorem box_no64 {w : World} {g : Nat} {A : Option Addr} {n c : Nat} {t : TypeId} (h : Bw w g [.slice A n c] t) : ∀ o z, w.cell? ⟨g, o, none⟩ ≠ some (.int .i64 z) := by
  intro o z e
  rw [cell_of_row _ _ _ _ _ _ h] at e
  match o with
  | 0 => simp at e
  | n + 1 => simp at e
/-- All that store knows ahead of its loop. -/
structure StB (w W0 : World) (p m : Nat) (x : Sl) (S : Nat → Prop) (X : TX) (AT : Option Addr) (nT cT : Nat) (T : List UInt8) (s : Vl.Th) (A : Option Addr) (n c : Nat) (gD gN gF : Nat) (A5 : Option Addr) (k5 c5 : Nat) (dr : List Nat) : Prop where
  b5 : B5 w p AT nT cT s (.slice A n c) (.slice none 0 0) 0 W0
  bd : Bw W0 gD [.slice A5 k5 c5] 112
  ns : BNS W0 A5 k5 dr
  bn : Bw W0 gN (nic (Vl.nd s []) (.slice none 0 0)) 85
  bf : Bw W0 gF [.func (.func 92) #[] #[.pointer (some ⟨gN, 0, none⟩), .pointer (some ⟨w.heap.size + 1, 0, none⟩), .pointer (some ⟨w.heap.size, 0, none⟩)]] 57
  cs : Bw W0 (gF + 1) [.slice A n c] 30
  cn : Bw W0 (gF + 2) [.int .i64 96] 3
  dl : w.heap.size + 4 < gD
  nl : gD < gN
  fl : gN < gF
  sz : W0.heap.size = gF + 3
  xs : BS W0 A n s.dt
  xl : 0 < n → ∀ ad, A = some ad → ad.block < w.heap.size
  xm : 0 < n → ∀ ad, A = some ad → ad.block ≠ m
  ml : m < w.heap.size
theorem StB.si {w W0 : World} {p m : Nat} {x : Sl} {S : Nat → Prop} {X : TX} {AT : Option Addr} {nT cT : Nat} {T : List UInt8} {s : Vl.Th} {A : Option Addr} {n c : Nat} {gD gN gF : Nat} {A5 : Option Addr} {k5 c5 : Nat} {dr : List Nat}
    (h : StB w W0 p m x S X AT nT cT T s A n c gD gN gF A5 k5 c5 dr) (ht : Tq w p m x S X) (hT : BS w AT nT T) : SI w W0 gN p m x (fun j => S j ∧ j ≠ w.heap.size + 3 ∧ j ≠ w.heap.size + 4) X T s dr 0 [] W0 := by
  have hdl := h.dl
  have hnl := h.nl
  have hfl := h.fl
  have hsz := h.sz
  refine ⟨⟨Fr.of_below h.b5.bel, fun k hk => by rw [hk]; exact ht.puts.dull⟩, Keep.refl _ _, h.b5.b0, ⟨none, 0, h.bn, World.ownsRow_nil _ _ _ _, ⟨AT, nT, cT, h.b5.b1, hT.below h.b5.bel, fun _ ad _ => by simp [Value.ownBlock]⟩, ⟨X, (ht.tight.below h.b5.bel).mono fun k hk => ⟨⟨hk.1, by have := hk.2; omega, by have := hk.2; omega⟩, by have := hk.2; omega, by have := hk.2; omega, by simp [Value.ownBlock]⟩, rfl, rfl⟩⟩, rfl, by omega, by omega⟩
theorem StB.d64 {w W0 : World} {p m : Nat} {x : Sl} {S : Nat → Prop} {X : TX} {AT : Option Addr} {nT cT : Nat} {T : List UInt8} {s : Vl.Th} {A : Option Addr} {n c : Nat} {gD gN gF : Nat} {A5 : Option Addr} {k5 c5 : Nat} {dr : List Nat}
    (h : StB w W0 p m x S X AT nT cT T s A n c gD gN gF A5 k5 c5 dr) (ht : Tq w p m x S X) (b o : Nat) (z : Int) (hc : W0.cell? ⟨b, o, none⟩ = some (.int .i64 z)) : b < W0.heap.size ∧ b ≠ m ∧ b ≠ w.heap.size + 1 ∧ b ≠ gN := by
  refine ⟨World.block_lt_of_cell? W0 _ hc, ?_, ?_, ?_⟩
  · rintro rfl
    exact ht.puts.dull.no_int _ _ _ ((h.b5.bel.cell (p := ⟨b, o, none⟩) ht.mlt).symm.trans hc)
  · rintro rfl
    exact box_no64 h.b5.b1 _ _ hc
  · rintro rfl
    exact nic_no64 h.bn _ _ hc
theorem Keep.of2 {K : Nat → Prop} {a b c : World} (h : Keep K a b) (h' : Keep K a c) (hs : b.heap.size ≤ c.heap.size) : Keep K b c := ⟨h'.os.trans h.os.symm, h'.tape.trans h.tape.symm, h'.output.trans h.output.symm, hs, fun k hk => (h'.block k hk).trans (h.block k hk).symm⟩
theorem SI.drew {w W0 W : World} {gN p m k : Nat} {x : Sl} {S : Nat → Prop} {X : TX} {T : List UInt8} {s : Vl.Th} {dr : List Nat} {ps : List (List UInt8)} (h : SI w W0 gN p m x S X T s dr k ps W) : SI w W0 gN p m x S X T s dr k ps W.drew := h.below (Below.refl _ _).drew
theorem Ch.step' {w w1 w2 : World} {m : Nat} (h : Ch (· = m) w w1) (h2 : Ch (· = m) w1 w2) : Ch (· = m) w w2 := ⟨h.1.trans h2.1 (fun _ hj => .inl hj), h.2⟩
/-- Behind store's last Put. -/
structure StoG (v3 : Value) (w W : World) (D p m : Nat) (x : Sl) (S : Nat → Prop) (X : TX) (T : List UInt8) (s : Vl.Th) (dr : List Nat) (AT1 : Option Addr) (nT1 cT1 : Nat) : Prop where
  b3 : Bw W (w.heap.size + 3) [v3] 30
  b4 : Bw W (w.heap.size + 4) [.int .i64 0] 34
  bs : BS W AT1 nT1 (Vl.tak T dr)
  tq : ∃ Y, Tq W p m x (fun j => S j ∧ j ≠ w.heap.size + 3 ∧ j ≠ w.heap.size + 4) Y ∧ Y.l = X.l ∧ Y.get = Vl.upd (Vl.putD s.dt dr 0 X.get) (11 + s.ino) (Vl.nd s dr).put
  ch : Ch (· = m) w W
  df : W.heap[D]? = some (.deferred (some []))
  dn : w.heap.size + 4 < D
abbrev StoF (w W : World) (D p m : Nat) (x : Sl) (S : Nat → Prop) (X : TX) (T : List UInt8) (s : Vl.Th) (dr : List Nat) (AT1 : Option Addr) (nT1 cT1 : Nat) : Prop := StoG (.slice none 0 0) w W D p m x S X T s dr AT1 nT1 cT1
abbrev StoE (w W : World) (D p m : Nat) (x : Sl) (S : Nat → Prop) (X : TX) (T : List UInt8) (s : Vl.Th) (dr : List Nat) (AT1 : Option Addr) (nT1 cT1 : Nat) : Prop := StoG (.slice AT1 nT1 cT1) w W D p m x S X T s dr AT1 nT1 cT1
theorem StoG.set {w W : World} {D p m : Nat} {x : Sl} {S : Nat → Prop} {X : TX} {T : List UInt8} {s : Vl.Th} {dr : List Nat} {AT1 : Option Addr} {nT1 cT1 : Nat} (h : StoG (.slice none 0 0) w W D p m x S X T s dr AT1 nT1 cT1) (v : Value) :
    StoG v w (W.setCell ⟨w.heap.size + 3, 0, none⟩ v) D p m x S X T s dr AT1 nT1 cT1 := by
  have hfr : Fr (· = w.heap.size + 3) W (W.setCell ⟨w.heap.size + 3, 0, none⟩ v) := (Fr.refl (· = w.heap.size + 3) W).setCell (p := ⟨w.heap.size + 3, 0, none⟩) (fun h' => h'.2 rfl) _
  have hdn := h.dn
  obtain ⟨Y, h1, h2, h3⟩ := h.tq
  exact ⟨h.b3.set 0 _, h.b4.off (by show w.heap.size + 4 ≠ w.heap.size + 3; omega) _, h.bs.off (q := w.heap.size + 3) (box_no8 h.b3) (fun k _ hk => Below.heap_setCell _ _ _ _ hk), ⟨Y, h1.fr hfr (fun k hk hs => hs.2.1 hk), h2, h3⟩,
    ⟨h.ch.1.trans hfr (fun k hk => .inr (by rw [hk]; omega)), h.ch.2⟩, (Below.heap_setCell _ _ _ _ (by show D ≠ w.heap.size + 3; omega)).trans h.df, hdn⟩
theorem StoG.set4 {v3 : Value} {w W : World} {D p m : Nat} {x : Sl} {S : Nat → Prop} {X : TX} {T : List UInt8} {s : Vl.Th} {dr : List Nat} {AT1 : Option Addr} {nT1 cT1 : Nat} (h : StoG v3 w W D p m x S X T s dr AT1 nT1 cT1) :
    StoG v3 w (W.setCell ⟨w.heap.size + 4, 0, none⟩ (.int .i64 0)) D p m x S X T s dr AT1 nT1 cT1 := by
  have hfr : Fr (· = w.heap.size + 4) W (W.setCell ⟨w.heap.size + 4, 0, none⟩ (.int .i64 0)) := (Fr.refl (· = w.heap.size + 4) W).setCell (p := ⟨w.heap.size + 4, 0, none⟩) (fun h' => h'.2 rfl) _
  have hdn := h.dn
  obtain ⟨Y, h1, h2, h3⟩ := h.tq
  have hb4 := h.b4
  refine ⟨h.b3.off (by show w.heap.size + 3 ≠ w.heap.size + 4; omega) _, hb4.set 0 _, h.bs.off (q := w.heap.size + 4) (fun o z e => ?_) (fun k _ hk => Below.heap_setCell _ _ _ _ hk), ⟨Y, h1.fr hfr (fun k hk hs => hs.2.2 hk), h2, h3⟩,
    ⟨h.ch.1.trans hfr (fun k hk => .inr (by rw [hk]; omega)), h.ch.2⟩, (Below.heap_setCell _ _ _ _ (by show D ≠ w.heap.size + 4; omega)).trans h.df, hdn⟩
  rw [cell_of_row _ _ _ _ _ _ hb4] at e
  match o with
  | 0 => simp at e
  | n + 1 => simp at e
theorem StoG.fin {v3 : Value} {w W : World} {D p m : Nat} {x : Sl} {S : Nat → Prop} {X : TX} {T : List UInt8} {s : Vl.Th} {dr : List Nat} {AT1 : Option Addr} {nT1 cT1 : Nat} (h : StoG v3 w W D p m x S X T s dr AT1 nT1 cT1) :
    (Bw (W.putObj D (.deferred none)) (w.heap.size + 3) [v3] 30 ∧ Bw (W.putObj D (.deferred none)) (w.heap.size + 4) [.int .i64 0] 34 ∧ BS (W.putObj D (.deferred none)) AT1 nT1 (Vl.tak T dr) ∧
      ∃ Y, Tq (W.putObj D (.deferred none)) p m x S Y ∧ Y.l = X.l ∧ Y.get = Vl.upd (Vl.putD s.dt dr 0 X.get) (11 + s.ino) (Vl.nd s dr).put) ∧ Ch (· = m) w (W.putObj D (.deferred none)) := by
  have hg := grownBy_putObj' W D (.deferred none)
  have hnc : ∃ o : Obj, W.heap[D]? = some o ∧ o.isCells = false := ⟨_, h.df, rfl⟩
  have hdn := h.dn
  have hm : m ≠ D := by
    rcases h.ch.2 m rfl with ⟨es, c', e⟩ | ⟨x', m', e⟩ <;> have := (Array.getElem?_eq_some_iff.1 e).1 <;> omega
  obtain ⟨Y, h1, h2, h3⟩ := h.tq
  have hfr : Fr (· = D) W (W.putObj D (.deferred none)) := ⟨hg.os, hg.tape, hg.output, hg.size, fun j hj => hg.block j hj.1 (fun e => hj.2 (by cases e; rfl))⟩
  refine ⟨⟨h.b3.grown hg (by simp; omega), h.b4.grown hg (by simp; omega), h.bs.grown hg (fun hn ad e e' => ?_), Y, ((h1.nocells hnc hm).keep fun j hj hlt => hg.block j hlt (fun e => hj.2 (by cases e; rfl))).mono fun j hj => hj.1.1, h2, h3⟩, ⟨h.ch.1.trans hfr (fun j hj => .inr (by rw [hj]; omega)), h.ch.2⟩⟩
  obtain ⟨b, o, e1, hcell⟩ := h.bs.2 hn
  have hl := h.bs.1
  rw [e] at e1
  cases e1
  obtain ⟨o2, ho2, hc2⟩ := cells_of_cell (hcell 0 (by omega))
  have e5 : D = b := by simpa using e'
  subst e5
  rw [show (({ block := D, off := o + 0 } : Addr).block) = D from rfl, h.df] at ho2
  cases ho2
  cases hc2
/-- What store hands back. -/
def StoQ (w : World) (p m : Nat) (x : Sl) (S : Nat → Prop) (X : TX) (T : List UInt8) (s : Vl.Th) (e : Ending) (w' : World) : Prop :=
  if need s.dt.length ≤ (Bt.fr T (x.n - 35)).length then
    ∃ A n c Y, e = .returned (.tuple #[.slice A n c, .int .i64 0]) ∧ BS w' A n (Vl.tak T ((Bt.fr T (x.n - 35)).take (need s.dt.length))) ∧ Tq w' p m x S Y ∧ Y.l = X.l ∧
      Y.get = Vl.upd (Vl.putD s.dt ((Bt.fr T (x.n - 35)).take (need s.dt.length)) 0 X.get) (11 + s.ino) (Vl.nd s ((Bt.fr T (x.n - 35)).take (need s.dt.length))).put ∧ Ch (· = m) w w'
  else e = .returned (.tuple #[.slice none 0 0, .int .i64 66]) ∧ Below w.heap.size w w'
set_option maxRecDepth 100000 in
set_option maxHeartbeats 4000000 in
theorem store_any (h : Tq w p m x S X) (hS : ∀ k, w.heap.size ≤ k → S k) (hN : 36 ≤ x.n) (hN2 : x.n ≤ 803) (T : List UInt8) (AT : Option Addr) (nT cT : Nat) (hT : BS w AT nT T) (hTl : T.length ≤ 96)
    (s : Vl.Th) (A : Option Addr) (n c : Nat) (hx : BS w A n s.dt) (hc : n ≤ c) (hok : Sl.okS s = true) (hf : Fits s) :
    Calls Tryz.prog 67 #[.pointer (some ⟨p, 0, none⟩), .slice AT nT cT, .agg (sc s (.slice A n c)).toArray] w (StoQ w p m x S X T s) := by
  have HT := Lib.hid h
  have HSN := Lib.hid hS
  have HX := Lib.hid hx
  have HBT := Lib.hid hT
  have HTL := Lib.hid hTl
  have HOK := Lib.hid hok
  have HF := Lib.hid hf
  have HCP := Lib.hid hc
  have HB0 := Lib.hid (B5.start w p AT nT cT s (.slice A n c))
  have hnT : nT ≤ 96 := by rw [← hT.1]; exact hTl
  have hn : n ≤ 768 := by have := (Vl.okB_facts hok).2.2; rw [← hx.1]; exact this
  clear h hS hx hT hTl hok hf hc
  unfold sc at HB0
  unfold sc
  refine (callsIn_wide (n := 9)).1 ?_
  refine callsIn_of_wp_marks Tryz.func67 rfl trivial ?_ rfl
  simp only [Tryz.ntmps67, List.size_toArray, List.length_cons, List.length_nil, Nat.reduceAdd, Nat.reduceSub, Array.replicate_succ, Array.replicate_zero, List.push_toArray, List.append_toArray, List.nil_append, List.cons_append]
  refine wpIn_wide.2 ?_
  go_upto_region 1 with fail
  generalize (((((w.alloc (.cells #[.pointer (some ⟨p, 0, none⟩)] 24)).alloc (.cells #[.slice AT nT cT] 30)).alloc (.cells #[.int .u32 (s.ino : Int), .int .u32 (s.kind : Int), .int .u32 (s.gen : Int), .int .u32 (s.links : Int), .int .u32 (s.mode : Int), .int .u64 (s.change : Int), .int .u64 (s.cookie : Int), .int .u64 (s.verf : Int), .slice A n c] 32)).alloc (.cells #[.slice none 0 0] 30)).alloc (.cells #[.int .i64 0] 34)) = W1 at *
  have HB0d : Hid (B5 w p AT nT cT s (.slice A n c) (.slice none 0 0) 0 W1.drew) := HB0.out.below (Below.refl _ _).drew
  refine Code.wp_mono (Q := only fun _ a W => ∃ gD A5 k5 c5, a = { tmps := List.toArray (.pointer (some ⟨p, 0, none⟩) :: .slice AT nT cT :: .agg #[.int .u32 (s.ino : Int), .int .u32 (s.kind : Int), .int .u32 (s.gen : Int), .int .u32 (s.links : Int), .int .u32 (s.mode : Int), .int .u64 (s.change : Int), .int .u64 (s.cookie : Int), .int .u64 (s.verf : Int), .slice A n c] :: .pointer (some ⟨w.heap.size, 0, none⟩) :: .pointer (some ⟨w.heap.size + 1, 0, none⟩) :: .pointer (some ⟨w.heap.size + 1 + 1, 0, none⟩) :: .pointer (some ⟨w.heap.size + 1 + 1 + 1, 0, none⟩) :: .pointer (some ⟨w.heap.size + 1 + 1 + 1 + 1, 0, none⟩) :: .pointer (some ⟨gD, 0, none⟩) :: .int .i64 (Bt.drwE T ((x.n - 35 : Nat) : Int) (need n : Int)) :: undef :: undef :: undef :: undef :: undef :: .tuple #[.slice A5 k5 c5, .int .i64 (Bt.drwE T ((x.n - 35 : Nat) : Int) (need n : Int))] :: .slice AT nT cT :: .pointer (some ⟨p, 0, none⟩) :: .int .i64 ((x.n - 35 : Nat) : Int) :: .pointer (some ⟨w.heap.size + 1 + 1, 8, none⟩) :: .slice A n c :: .int .i64 (n : Int) :: .int .i64 (need n : Int) :: .tuple #[.slice A5 k5 c5, .int .i64 (Bt.drwE T ((x.n - 35 : Nat) : Int) (need n : Int))] :: .slice A5 k5 c5 :: .int .i64 (Bt.drwE T ((x.n - 35 : Nat) : Int) (need n : Int)) :: undef :: undef :: undef :: undef :: undef :: undef :: undef :: undef :: undef :: undef :: undef :: undef :: undef :: undef :: undef :: undef :: undef :: undef :: undef :: undef :: undef :: undef :: undef :: undef :: undef :: undef :: undef :: undef :: undef :: undef :: undef :: undef :: undef :: undef :: undef :: undef :: undef :: undef :: []), defers := [] } ∧ B5 w p AT nT cT s (.slice A n c) (.slice none 0 0) 0 W ∧ Bw W gD [.slice A5 k5 c5] 112 ∧ BNS W A5 k5 (Bt.drw T ((x.n - 35 : Nat) : Int) (need n : Int)) ∧ w.heap.size + 4 < gD) ?rest ?first
  case first =>
    have HS0 : Hid ((fun W : World => W.cell? ⟨w.heap.size + 1, 0, none⟩ = some (.slice AT nT cT) ∧ W.cell? ⟨w.heap.size, 0, none⟩ = some (.pointer (some ⟨p, 0, none⟩)) ∧ W.cell? ⟨w.heap.size + 1 + 1, 8, none⟩ = some (.slice A n c)) W1.drew) := ⟨HB0d.out.b1.cell 0 _ rfl, HB0d.out.b0.cell 0 _ rfl, HB0d.out.b2.cell 8 _ rfl⟩
    refine wp_region_held_drew (S := fun W => W.cell? ⟨w.heap.size + 1, 0, none⟩ = some (.slice AT nT cT) ∧ W.cell? ⟨w.heap.size, 0, none⟩ = some (.pointer (some ⟨p, 0, none⟩)) ∧ W.cell? ⟨w.heap.size + 1 + 1, 8, none⟩ = some (.slice A n c)) (by kernel_rfl) HS0.out (fun _ => ?_)
    change wpAnyH _ _ _ _ _ 14 (Array.replicate 14 false) _ _
    refine takeH (i := 0) 16 (.slice AT nT cT) rfl rfl (by kernel_rfl) (by kernel_rfl) (by kernel_rfl) (fun _ _ _ h => h) (.inl ⟨by rfl, fun W hW => by (have hz := hW.1; go_simp)⟩) HS0.out ?_
    simp only [Act.put, List.setIfInBounds_toArray, List.set_cons_zero, List.set_cons_succ]
    refine takeH (i := 1) 17 (.pointer (some ⟨p, 0, none⟩)) rfl rfl (by kernel_rfl) (by kernel_rfl) (by kernel_rfl) (fun _ _ _ h => h) (.inl ⟨by rfl, fun W hW => by (have hz := hW.2.1; go_simp)⟩) HS0.out ?_
    simp only [Act.put, List.setIfInBounds_toArray, List.set_cons_zero, List.set_cons_succ]
    refine takeH (i := 3) 19 (.pointer (some ⟨w.heap.size + 1 + 1, 8, none⟩)) rfl rfl (by kernel_rfl) (by kernel_rfl) (by kernel_rfl) (fun _ _ _ h => h) (.inl ⟨by rfl, fun W hW => by go_simp⟩) HS0.out ?_
    simp only [Act.put, List.setIfInBounds_toArray, List.set_cons_zero, List.set_cons_succ]
    refine takeH (i := 4) 20 (.slice A n c) rfl rfl (by kernel_rfl) (by kernel_rfl) (by kernel_rfl) (fun _ _ _ h => h) (.inl ⟨by rfl, fun W hW => by (have hz := hW.2.2; go_simp)⟩) HS0.out ?_
    simp only [Act.put, List.setIfInBounds_toArray, List.set_cons_zero, List.set_cons_succ]
    refine takeH (i := 5) 21 (.int .i64 (n : Int)) rfl rfl (by kernel_rfl) (by kernel_rfl) (by kernel_rfl) (fun _ _ _ h => h) (.inl ⟨by rfl, fun W hW => by go_simp⟩) HS0.out ?_
    simp only [Act.put, List.setIfInBounds_toArray, List.set_cons_zero, List.set_cons_succ]
    refine wpAnyH_ready (rs := [2, 11]) (by kernel_rfl) (by simp) ?_
    refine AllReadyH.cons rfl (fun K hK => ?_) (AllReadyH.cons rfl (fun K hK => ?_) AllReadyH.nil)
    · go_simp
      refine (room_any (HT.out.below HB0d.out.bel) hN hN2).mono ?_
      rintro e w' ⟨rfl, hw'⟩
      subst hw'
      refine hK.out _ _ HS0.out fun _ => ?_
      clear hK K
      refine wpAnyH_ready (rs := [6, 11]) (by kernel_rfl) (by simp) ?_
      refine AllReadyH.cons rfl (fun K hK => ?_) (AllReadyH.cons rfl (fun K hK => ?_) AllReadyH.nil)
      · go_simp
        refine (need_any (n : Int) _ (by omega) (by omega)).mono ?_
        rintro e w' ⟨rfl, hw'⟩
        subst hw'
        rw [needI_nat]
        refine hK.out _ _ HS0.out fun _ => ?_
        clear hK K
        refine wpAnyH_ready (rs := [7, 11]) (by kernel_rfl) (by simp) ?_
        refine AllReadyH.cons rfl (fun K hK => ?_) (AllReadyH.cons rfl (fun K hK => ?_) AllReadyH.nil)
        · go_simp
          refine (draw_any AT nT cT T _ (need n : Int) _ (HBT.out.below HB0d.out.bel) (by omega) (by omega)).mono ?_
          rintro e wd1 ⟨A5, k5, c5, rfl, hns, hw5⟩
          have HBd1 := Lib.hid (HB0d.out.below hw5)
          have HNd1 := Lib.hid hns
          have HSd1 : Hid ((fun W : World => W.cell? ⟨w.heap.size + 1, 0, none⟩ = some (.slice AT nT cT) ∧ W.cell? ⟨w.heap.size, 0, none⟩ = some (.pointer (some ⟨p, 0, none⟩)) ∧ W.cell? ⟨w.heap.size + 1 + 1, 8, none⟩ = some (.slice A n c)) wd1) := ⟨HBd1.out.b1.cell 0 _ rfl, HBd1.out.b0.cell 0 _ rfl, HBd1.out.b2.cell 8 _ rfl⟩
          refine hK.out _ _ HSd1.out fun _ => ?_
          clear hK K hns hw5
          refine takeH (i := 8) 15 (.tuple #[.slice A5 k5 c5, .int .i64 (Bt.drwE T ((x.n - 35 : Nat) : Int) (need n : Int))]) rfl rfl (by kernel_rfl) (by kernel_rfl) (by kernel_rfl) (fun _ _ _ h => h) (.inl ⟨by rfl, fun W hW => by go_simp⟩) HSd1.out ?_
          simp only [Act.put, List.setIfInBounds_toArray, List.set_cons_zero, List.set_cons_succ]
          refine takeH (i := 9) 24 (.slice A5 k5 c5) rfl rfl (by kernel_rfl) (by kernel_rfl) (by kernel_rfl) (fun _ _ _ h => h) (.inl ⟨by rfl, fun W hW => by go_simp⟩) HSd1.out ?_
          simp only [Act.put, List.setIfInBounds_toArray, List.set_cons_zero, List.set_cons_succ]
          refine takeH (i := 10) 25 (.int .i64 (Bt.drwE T ((x.n - 35 : Nat) : Int) (need n : Int))) rfl rfl (by kernel_rfl) (by kernel_rfl) (by kernel_rfl) (fun _ _ _ h => h) (.inl ⟨by rfl, fun W hW => by go_simp⟩) HSd1.out ?_
          simp only [Act.put, List.setIfInBounds_toArray, List.set_cons_zero, List.set_cons_succ]
          refine wpAnyH_ready (rs := [11]) (by kernel_rfl) (by simp) ?_
          refine AllReadyH.cons rfl (fun K hK => ?_) AllReadyH.nil
          go_simp
          have hba2 : Below wd1.heap.size wd1 (wd1.alloc (.cells #[.slice none 0 0] 112)) := (Below.refl _ wd1).alloc (Nat.le_refl _) _
          have HBa2 := Lib.hid (HBd1.out.below hba2)
          have HGa2 : Hid (Bw (wd1.alloc (.cells #[.slice none 0 0] 112)) wd1.heap.size [.slice none 0 0] 112 ∧ w.heap.size + 4 < wd1.heap.size) := ⟨heap_alloc_new wd1 _, HBd1.out.b4.lt⟩
          have HNa2 := Lib.hid (HNd1.out.below hba2)
          have HSa2 : Hid ((fun W : World => W.cell? ⟨w.heap.size + 1, 0, none⟩ = some (.slice AT nT cT) ∧ W.cell? ⟨w.heap.size, 0, none⟩ = some (.pointer (some ⟨p, 0, none⟩)) ∧ W.cell? ⟨w.heap.size + 1 + 1, 8, none⟩ = some (.slice A n c)) (wd1.alloc (.cells #[.slice none 0 0] 112))) := ⟨HBa2.out.b1.cell 0 _ rfl, HBa2.out.b0.cell 0 _ rfl, HBa2.out.b2.cell 8 _ rfl⟩
          refine hK.out _ _ HSa2.out fun _ => ?_
          clear hK K hba2
          obtain ⟨wa2, hwa2⟩ : ∃ w2, (wd1.alloc (.cells #[.slice none 0 0] 112)) = w2 := ⟨_, rfl⟩
          rw [hwa2] at HBa2 HGa2 HSa2 HNa2 ⊢
          generalize wd1.heap.size = gD at HGa2 ⊢
          clear hwa2
          refine wpAnyH_ready (rs := [12]) (by kernel_rfl) (by simp) ?_
          refine AllReadyH.cons rfl (fun K hK => ?_) AllReadyH.nil
          have gk := HGa2.out.1.cell 0 _ rfl
          have gf := HGa2.out.1.froz 0
          go_simp
          have hfin := B5.fin HBa2.out HGa2.out.1 HNa2.out HGa2.out.2 A5 k5 c5
          have HBz := Lib.hid hfin.1
          have HGz := Lib.hid hfin.2.1
          have HNz := Lib.hid hfin.2.2
          have HSz : Hid ((fun W : World => W.cell? ⟨w.heap.size + 1, 0, none⟩ = some (.slice AT nT cT) ∧ W.cell? ⟨w.heap.size, 0, none⟩ = some (.pointer (some ⟨p, 0, none⟩)) ∧ W.cell? ⟨w.heap.size + 1 + 1, 8, none⟩ = some (.slice A n c)) _) := ⟨HBz.out.b1.cell 0 _ rfl, HBz.out.b0.cell 0 _ rfl, HBz.out.b2.cell 8 _ rfl⟩
          refine hK.out _ _ HSz.out fun _ => ?_
          clear hK K gk gf hfin
          refine takeH (i := 13) 9 (.int .i64 (Bt.drwE T ((x.n - 35 : Nat) : Int) (need n : Int))) rfl rfl (by kernel_rfl) (by kernel_rfl) (by kernel_rfl) (fun _ _ _ h => h) (.inl ⟨by rfl, fun W hW => by go_simp⟩) HSz.out ?_
          simp only [Act.put, List.setIfInBounds_toArray, List.set_cons_zero, List.set_cons_succ]
          refine wpAnyH_done (by kernel_rfl) ?_ _
          exact ⟨_, A5, k5, c5, rfl, HBz.out, HGz.out, HNz.out, HGa2.out.2⟩
        · go_simp
          have hba3 : Below W1.drew.heap.size W1.drew (W1.alloc (.cells #[.slice none 0 0] 112)).drew := (Below.refl _ W1.drew).alloc (Nat.le_refl _) _
          have HBa3 := Lib.hid (HB0d.out.below hba3)
          have HGa3 : Hid (Bw (W1.alloc (.cells #[.slice none 0 0] 112)).drew W1.heap.size [.slice none 0 0] 112 ∧ w.heap.size + 4 < W1.heap.size) := ⟨heap_alloc_new W1.drew _, HB0d.out.b4.lt⟩
          have HSa3 : Hid ((fun W : World => W.cell? ⟨w.heap.size + 1, 0, none⟩ = some (.slice AT nT cT) ∧ W.cell? ⟨w.heap.size, 0, none⟩ = some (.pointer (some ⟨p, 0, none⟩)) ∧ W.cell? ⟨w.heap.size + 1 + 1, 8, none⟩ = some (.slice A n c)) (W1.alloc (.cells #[.slice none 0 0] 112)).drew) := ⟨HBa3.out.b1.cell 0 _ rfl, HBa3.out.b0.cell 0 _ rfl, HBa3.out.b2.cell 8 _ rfl⟩
          refine hK.out _ _ HSa3.out fun _ => ?_
          clear hK K hba3
          obtain ⟨wa3, hwa3⟩ : ∃ w2, (W1.alloc (.cells #[.slice none 0 0] 112)).drew = w2 := ⟨_, rfl⟩
          rw [hwa3] at HBa3 HGa3 HSa3 ⊢
          generalize W1.heap.size = gD at HGa3 ⊢
          clear hwa3
          refine wpAnyH_ready (rs := [7]) (by kernel_rfl) (by simp) ?_
          refine AllReadyH.cons rfl (fun K hK => ?_) AllReadyH.nil
          go_simp
          refine (draw_any AT nT cT T _ (need n : Int) _ (HBT.out.below HBa3.out.bel) (by omega) (by omega)).mono ?_
          rintro e wd4 ⟨A5, k5, c5, rfl, hns, hw5⟩
          have HBd4 := Lib.hid (HBa3.out.below hw5)
          have HNd4 := Lib.hid hns
          have HGd4 : Hid (Bw wd4 gD [.slice none 0 0] 112 ∧ w.heap.size + 4 < gD) := ⟨HGa3.out.1.below hw5, HGa3.out.2⟩
          have HSd4 : Hid ((fun W : World => W.cell? ⟨w.heap.size + 1, 0, none⟩ = some (.slice AT nT cT) ∧ W.cell? ⟨w.heap.size, 0, none⟩ = some (.pointer (some ⟨p, 0, none⟩)) ∧ W.cell? ⟨w.heap.size + 1 + 1, 8, none⟩ = some (.slice A n c)) wd4) := ⟨HBd4.out.b1.cell 0 _ rfl, HBd4.out.b0.cell 0 _ rfl, HBd4.out.b2.cell 8 _ rfl⟩
          refine hK.out _ _ HSd4.out fun _ => ?_
          clear hK K hns hw5
          refine takeH (i := 8) 15 (.tuple #[.slice A5 k5 c5, .int .i64 (Bt.drwE T ((x.n - 35 : Nat) : Int) (need n : Int))]) rfl rfl (by kernel_rfl) (by kernel_rfl) (by kernel_rfl) (fun _ _ _ h => h) (.inl ⟨by rfl, fun W hW => by go_simp⟩) HSd4.out ?_
          simp only [Act.put, List.setIfInBounds_toArray, List.set_cons_zero, List.set_cons_succ]
          refine takeH (i := 9) 24 (.slice A5 k5 c5) rfl rfl (by kernel_rfl) (by kernel_rfl) (by kernel_rfl) (fun _ _ _ h => h) (.inl ⟨by rfl, fun W hW => by go_simp⟩) HSd4.out ?_
          simp only [Act.put, List.setIfInBounds_toArray, List.set_cons_zero, List.set_cons_succ]
          refine takeH (i := 10) 25 (.int .i64 (Bt.drwE T ((x.n - 35 : Nat) : Int) (need n : Int))) rfl rfl (by kernel_rfl) (by kernel_rfl) (by kernel_rfl) (fun _ _ _ h => h) (.inl ⟨by rfl, fun W hW => by go_simp⟩) HSd4.out ?_
          simp only [Act.put, List.setIfInBounds_toArray, List.set_cons_zero, List.set_cons_succ]
          refine wpAnyH_ready (rs := [12]) (by kernel_rfl) (by simp) ?_
          refine AllReadyH.cons rfl (fun K hK => ?_) AllReadyH.nil
          have gk := HGd4.out.1.cell 0 _ rfl
          have gf := HGd4.out.1.froz 0
          go_simp
          have hfin := B5.fin HBd4.out HGd4.out.1 HNd4.out HGd4.out.2 A5 k5 c5
          have HBz := Lib.hid hfin.1
          have HGz := Lib.hid hfin.2.1
          have HNz := Lib.hid hfin.2.2
          have HSz : Hid ((fun W : World => W.cell? ⟨w.heap.size + 1, 0, none⟩ = some (.slice AT nT cT) ∧ W.cell? ⟨w.heap.size, 0, none⟩ = some (.pointer (some ⟨p, 0, none⟩)) ∧ W.cell? ⟨w.heap.size + 1 + 1, 8, none⟩ = some (.slice A n c)) _) := ⟨HBz.out.b1.cell 0 _ rfl, HBz.out.b0.cell 0 _ rfl, HBz.out.b2.cell 8 _ rfl⟩
          refine hK.out _ _ HSz.out fun _ => ?_
          clear hK K gk gf hfin
          refine takeH (i := 13) 9 (.int .i64 (Bt.drwE T ((x.n - 35 : Nat) : Int) (need n : Int))) rfl rfl (by kernel_rfl) (by kernel_rfl) (by kernel_rfl) (fun _ _ _ h => h) (.inl ⟨by rfl, fun W hW => by go_simp⟩) HSz.out ?_
          simp only [Act.put, List.setIfInBounds_toArray, List.set_cons_zero, List.set_cons_succ]
          refine wpAnyH_done (by kernel_rfl) ?_ _
          exact ⟨_, A5, k5, c5, rfl, HBz.out, HGz.out, HNz.out, HGd4.out.2⟩
      · go_simp
        have hba5 : Below W1.drew.heap.size W1.drew (W1.alloc (.cells #[.slice none 0 0] 112)).drew := (Below.refl _ W1.drew).alloc (Nat.le_refl _) _
        have HBa5 := Lib.hid (HB0d.out.below hba5)
        have HGa5 : Hid (Bw (W1.alloc (.cells #[.slice none 0 0] 112)).drew W1.heap.size [.slice none 0 0] 112 ∧ w.heap.size + 4 < W1.heap.size) := ⟨heap_alloc_new W1.drew _, HB0d.out.b4.lt⟩
        have HSa5 : Hid ((fun W : World => W.cell? ⟨w.heap.size + 1, 0, none⟩ = some (.slice AT nT cT) ∧ W.cell? ⟨w.heap.size, 0, none⟩ = some (.pointer (some ⟨p, 0, none⟩)) ∧ W.cell? ⟨w.heap.size + 1 + 1, 8, none⟩ = some (.slice A n c)) (W1.alloc (.cells #[.slice none 0 0] 112)).drew) := ⟨HBa5.out.b1.cell 0 _ rfl, HBa5.out.b0.cell 0 _ rfl, HBa5.out.b2.cell 8 _ rfl⟩
        refine hK.out _ _ HSa5.out fun _ => ?_
        clear hK K hba5
        obtain ⟨wa5, hwa5⟩ : ∃ w2, (W1.alloc (.cells #[.slice none 0 0] 112)).drew = w2 := ⟨_, rfl⟩
        rw [hwa5] at HBa5 HGa5 HSa5 ⊢
        generalize W1.heap.size = gD at HGa5 ⊢
        clear hwa5
        refine wpAnyH_ready (rs := [6]) (by kernel_rfl) (by simp) ?_
        refine AllReadyH.cons rfl (fun K hK => ?_) AllReadyH.nil
        go_simp
        refine (need_any (n : Int) _ (by omega) (by omega)).mono ?_
        rintro e w' ⟨rfl, hw'⟩
        subst hw'
        rw [needI_nat]
        refine hK.out _ _ HSa5.out fun _ => ?_
        clear hK K
        refine wpAnyH_ready (rs := [7]) (by kernel_rfl) (by simp) ?_
        refine AllReadyH.cons rfl (fun K hK => ?_) AllReadyH.nil
        go_simp
        refine (draw_any AT nT cT T _ (need n : Int) _ (HBT.out.below HBa5.out.bel) (by omega) (by omega)).mono ?_
        rintro e wd6 ⟨A5, k5, c5, rfl, hns, hw5⟩
        have HBd6 := Lib.hid (HBa5.out.below hw5)
        have HNd6 := Lib.hid hns
        have HGd6 : Hid (Bw wd6 gD [.slice none 0 0] 112 ∧ w.heap.size + 4 < gD) := ⟨HGa5.out.1.below hw5, HGa5.out.2⟩
        have HSd6 : Hid ((fun W : World => W.cell? ⟨w.heap.size + 1, 0, none⟩ = some (.slice AT nT cT) ∧ W.cell? ⟨w.heap.size, 0, none⟩ = some (.pointer (some ⟨p, 0, none⟩)) ∧ W.cell? ⟨w.heap.size + 1 + 1, 8, none⟩ = some (.slice A n c)) wd6) := ⟨HBd6.out.b1.cell 0 _ rfl, HBd6.out.b0.cell 0 _ rfl, HBd6.out.b2.cell 8 _ rfl⟩
        refine hK.out _ _ HSd6.out fun _ => ?_
        clear hK K hns hw5
        refine takeH (i := 8) 15 (.tuple #[.slice A5 k5 c5, .int .i64 (Bt.drwE T ((x.n - 35 : Nat) : Int) (need n : Int))]) rfl rfl (by kernel_rfl) (by kernel_rfl) (by kernel_rfl) (fun _ _ _ h => h) (.inl ⟨by rfl, fun W hW => by go_simp⟩) HSd6.out ?_
        simp only [Act.put, List.setIfInBounds_toArray, List.set_cons_zero, List.set_cons_succ]
        refine takeH (i := 9) 24 (.slice A5 k5 c5) rfl rfl (by kernel_rfl) (by kernel_rfl) (by kernel_rfl) (fun _ _ _ h => h) (.inl ⟨by rfl, fun W hW => by go_simp⟩) HSd6.out ?_
        simp only [Act.put, List.setIfInBounds_toArray, List.set_cons_zero, List.set_cons_succ]
        refine takeH (i := 10) 25 (.int .i64 (Bt.drwE T ((x.n - 35 : Nat) : Int) (need n : Int))) rfl rfl (by kernel_rfl) (by kernel_rfl) (by kernel_rfl) (fun _ _ _ h => h) (.inl ⟨by rfl, fun W hW => by go_simp⟩) HSd6.out ?_
        simp only [Act.put, List.setIfInBounds_toArray, List.set_cons_zero, List.set_cons_succ]
        refine wpAnyH_ready (rs := [12]) (by kernel_rfl) (by simp) ?_
        refine AllReadyH.cons rfl (fun K hK => ?_) AllReadyH.nil
        have gk := HGd6.out.1.cell 0 _ rfl
        have gf := HGd6.out.1.froz 0
        go_simp
        have hfin := B5.fin HBd6.out HGd6.out.1 HNd6.out HGd6.out.2 A5 k5 c5
        have HBz := Lib.hid hfin.1
        have HGz := Lib.hid hfin.2.1
        have HNz := Lib.hid hfin.2.2
        have HSz : Hid ((fun W : World => W.cell? ⟨w.heap.size + 1, 0, none⟩ = some (.slice AT nT cT) ∧ W.cell? ⟨w.heap.size, 0, none⟩ = some (.pointer (some ⟨p, 0, none⟩)) ∧ W.cell? ⟨w.heap.size + 1 + 1, 8, none⟩ = some (.slice A n c)) _) := ⟨HBz.out.b1.cell 0 _ rfl, HBz.out.b0.cell 0 _ rfl, HBz.out.b2.cell 8 _ rfl⟩
        refine hK.out _ _ HSz.out fun _ => ?_
        clear hK K gk gf hfin
        refine takeH (i := 13) 9 (.int .i64 (Bt.drwE T ((x.n - 35 : Nat) : Int) (need n : Int))) rfl rfl (by kernel_rfl) (by kernel_rfl) (by kernel_rfl) (fun _ _ _ h => h) (.inl ⟨by rfl, fun W hW => by go_simp⟩) HSz.out ?_
        simp only [Act.put, List.setIfInBounds_toArray, List.set_cons_zero, List.set_cons_succ]
        refine wpAnyH_done (by kernel_rfl) ?_ _
        exact ⟨_, A5, k5, c5, rfl, HBz.out, HGz.out, HNz.out, HGd6.out.2⟩
    · go_simp
      have hba7 : Below W1.drew.heap.size W1.drew (W1.alloc (.cells #[.slice none 0 0] 112)).drew := (Below.refl _ W1.drew).alloc (Nat.le_refl _) _
      have HBa7 := Lib.hid (HB0d.out.below hba7)
      have HGa7 : Hid (Bw (W1.alloc (.cells #[.slice none 0 0] 112)).drew W1.heap.size [.slice none 0 0] 112 ∧ w.heap.size + 4 < W1.heap.size) := ⟨heap_alloc_new W1.drew _, HB0d.out.b4.lt⟩
      have HSa7 : Hid ((fun W : World => W.cell? ⟨w.heap.size + 1, 0, none⟩ = some (.slice AT nT cT) ∧ W.cell? ⟨w.heap.size, 0, none⟩ = some (.pointer (some ⟨p, 0, none⟩)) ∧ W.cell? ⟨w.heap.size + 1 + 1, 8, none⟩ = some (.slice A n c)) (W1.alloc (.cells #[.slice none 0 0] 112)).drew) := ⟨HBa7.out.b1.cell 0 _ rfl, HBa7.out.b0.cell 0 _ rfl, HBa7.out.b2.cell 8 _ rfl⟩
      refine hK.out _ _ HSa7.out fun _ => ?_
      clear hK K hba7
      obtain ⟨wa7, hwa7⟩ : ∃ w2, (W1.alloc (.cells #[.slice none 0 0] 112)).drew = w2 := ⟨_, rfl⟩
      rw [hwa7] at HBa7 HGa7 HSa7 ⊢
      generalize W1.heap.size = gD at HGa7 ⊢
      clear hwa7
      refine wpAnyH_ready (rs := [2]) (by kernel_rfl) (by simp) ?_
      refine AllReadyH.cons rfl (fun K hK => ?_) AllReadyH.nil
      go_simp
      refine (room_any (HT.out.below HBa7.out.bel) hN hN2).mono ?_
      rintro e w' ⟨rfl, hw'⟩
      subst hw'
      refine hK.out _ _ HSa7.out fun _ => ?_
      clear hK K
      refine wpAnyH_ready (rs := [6]) (by kernel_rfl) (by simp) ?_
      refine AllReadyH.cons rfl (fun K hK => ?_) AllReadyH.nil
      go_simp
      refine (need_any (n : Int) _ (by omega) (by omega)).mono ?_
      rintro e w' ⟨rfl, hw'⟩
      subst hw'
      rw [needI_nat]
      refine hK.out _ _ HSa7.out fun _ => ?_
      clear hK K
      refine wpAnyH_ready (rs := [7]) (by kernel_rfl) (by simp) ?_
      refine AllReadyH.cons rfl (fun K hK => ?_) AllReadyH.nil
      go_simp
      refine (draw_any AT nT cT T _ (need n : Int) _ (HBT.out.below HBa7.out.bel) (by omega) (by omega)).mono ?_
      rintro e wd8 ⟨A5, k5, c5, rfl, hns, hw5⟩
      have HBd8 := Lib.hid (HBa7.out.below hw5)
      have HNd8 := Lib.hid hns
      have HGd8 : Hid (Bw wd8 gD [.slice none 0 0] 112 ∧ w.heap.size + 4 < gD) := ⟨HGa7.out.1.below hw5, HGa7.out.2⟩
      have HSd8 : Hid ((fun W : World => W.cell? ⟨w.heap.size + 1, 0, none⟩ = some (.slice AT nT cT) ∧ W.cell? ⟨w.heap.size, 0, none⟩ = some (.pointer (some ⟨p, 0, none⟩)) ∧ W.cell? ⟨w.heap.size + 1 + 1, 8, none⟩ = some (.slice A n c)) wd8) := ⟨HBd8.out.b1.cell 0 _ rfl, HBd8.out.b0.cell 0 _ rfl, HBd8.out.b2.cell 8 _ rfl⟩
      refine hK.out _ _ HSd8.out fun _ => ?_
      clear hK K hns hw5
      refine takeH (i := 8) 15 (.tuple #[.slice A5 k5 c5, .int .i64 (Bt.drwE T ((x.n - 35 : Nat) : Int) (need n : Int))]) rfl rfl (by kernel_rfl) (by kernel_rfl) (by kernel_rfl) (fun _ _ _ h => h) (.inl ⟨by rfl, fun W hW => by go_simp⟩) HSd8.out ?_
      simp only [Act.put, List.setIfInBounds_toArray, List.set_cons_zero, List.set_cons_succ]
      refine takeH (i := 9) 24 (.slice A5 k5 c5) rfl rfl (by kernel_rfl) (by kernel_rfl) (by kernel_rfl) (fun _ _ _ h => h) (.inl ⟨by rfl, fun W hW => by go_simp⟩) HSd8.out ?_
      simp only [Act.put, List.setIfInBounds_toArray, List.set_cons_zero, List.set_cons_succ]
      refine takeH (i := 10) 25 (.int .i64 (Bt.drwE T ((x.n - 35 : Nat) : Int) (need n : Int))) rfl rfl (by kernel_rfl) (by kernel_rfl) (by kernel_rfl) (fun _ _ _ h => h) (.inl ⟨by rfl, fun W hW => by go_simp⟩) HSd8.out ?_
      simp only [Act.put, List.setIfInBounds_toArray, List.set_cons_zero, List.set_cons_succ]
      refine wpAnyH_ready (rs := [12]) (by kernel_rfl) (by simp) ?_
      refine AllReadyH.cons rfl (fun K hK => ?_) AllReadyH.nil
      have gk := HGd8.out.1.cell 0 _ rfl
      have gf := HGd8.out.1.froz 0
      go_simp
      have hfin := B5.fin HBd8.out HGd8.out.1 HNd8.out HGd8.out.2 A5 k5 c5
      have HBz := Lib.hid hfin.1
      have HGz := Lib.hid hfin.2.1
      have HNz := Lib.hid hfin.2.2
      have HSz : Hid ((fun W : World => W.cell? ⟨w.heap.size + 1, 0, none⟩ = some (.slice AT nT cT) ∧ W.cell? ⟨w.heap.size, 0, none⟩ = some (.pointer (some ⟨p, 0, none⟩)) ∧ W.cell? ⟨w.heap.size + 1 + 1, 8, none⟩ = some (.slice A n c)) _) := ⟨HBz.out.b1.cell 0 _ rfl, HBz.out.b0.cell 0 _ rfl, HBz.out.b2.cell 8 _ rfl⟩
      refine hK.out _ _ HSz.out fun _ => ?_
      clear hK K gk gf hfin
      refine takeH (i := 13) 9 (.int .i64 (Bt.drwE T ((x.n - 35 : Nat) : Int) (need n : Int))) rfl rfl (by kernel_rfl) (by kernel_rfl) (by kernel_rfl) (fun _ _ _ h => h) (.inl ⟨by rfl, fun W hW => by go_simp⟩) HSz.out ?_
      simp only [Act.put, List.setIfInBounds_toArray, List.set_cons_zero, List.set_cons_succ]
      refine wpAnyH_done (by kernel_rfl) ?_ _
      exact ⟨_, A5, k5, c5, rfl, HBz.out, HGz.out, HNz.out, HGd8.out.2⟩
  case rest =>
    rintro e a W h
    cases e
    all_goals first | exact h.elim | skip
    obtain ⟨gD, A5, k5, c5, rfl, hB, hG, hNS, hlt⟩ := h
    have HB := Lib.hid hB
    have HG := Lib.hid hG
    have HNS := Lib.hid hNS
    clear hB hG hNS HB0 HB0d
    simp only [Exit.then]
    have HDE : Hid (Bt.drwE T ((x.n - 35 : Nat) : Int) (need n : Int) = if (Bt.fr T (x.n - 35)).length < need n then 66 else 0) := by
      show _ = _
      unfold Bt.drwE
      rw [if_neg (by omega), Int.toNat_natCast]
      by_cases h : (Bt.fr T (x.n - 35)).length < need n
      · rw [if_pos (by omega), if_pos h]
      · rw [if_neg (by omega), if_neg h]
    by_cases hroom : (Bt.fr T (x.n - 35)).length < need n
    · have HZ : Hid (Bt.drwE T ((x.n - 35 : Nat) : Int) (need n : Int) = 66) := by show _ = _; rw [HDE.out, if_pos hroom]
      rw [HZ.out]
      have k3 : W.cell? ⟨w.heap.size + 1 + 1 + 1, 0, none⟩ = some (.slice none 0 0) := HB.out.b3.cell 0 _ rfl
      have f3 : W.frozen? ⟨w.heap.size + 1 + 1 + 1, 0, none⟩ = false := HB.out.b3.froz 0
      have k4 : W.cell? ⟨w.heap.size + 1 + 1 + 1 + 1, 0, none⟩ = some (.int .i64 0) := HB.out.b4.cell 0 _ rfl
      have f4 : W.frozen? ⟨w.heap.size + 1 + 1 + 1 + 1, 0, none⟩ = false := HB.out.b4.froz 0
      have HNR : Hid (¬ need n ≤ (Bt.fr T (x.n - 35)).length) := by show ¬ _; omega
      clear hroom
      go_wp2_with fail
      have hb3 : Bw ((W.setCell ⟨w.heap.size + 1 + 1 + 1, 0, none⟩ (.slice none 0 0)).setCell ⟨w.heap.size + 1 + 1 + 1 + 1, 0, none⟩ (.int .i64 66)) (w.heap.size + 3) [.slice none 0 0] 30 := (HB.out.b3.set 0 _).off (by show w.heap.size + 3 ≠ w.heap.size + 4; omega) _
      have hb4 : Bw ((W.setCell ⟨w.heap.size + 1 + 1 + 1, 0, none⟩ (.slice none 0 0)).setCell ⟨w.heap.size + 1 + 1 + 1 + 1, 0, none⟩ (.int .i64 66)) (w.heap.size + 4) [.int .i64 66] 34 := (HB.out.b4.off (by show w.heap.size + 4 ≠ w.heap.size + 3; omega) _).set 0 _
      refine ⟨_, results_cells2 rfl _ _ _ _ _ _ Tryz.underlying30 rfl Tryz.underlying34 rfl (by rfl) (by rfl) (hb3.cell 0 _ rfl) (hb4.cell 0 _ rfl), ?_⟩
      unfold StoQ
      rw [if_neg (by rw [HX.out.1]; exact HNR.out)]
      exact ⟨rfl, (HB.out.bel.setCell (p := ⟨w.heap.size + 1 + 1 + 1, 0, none⟩) (by show w.heap.size ≤ w.heap.size + 3; omega) _).setCell (p := ⟨w.heap.size + 1 + 1 + 1 + 1, 0, none⟩) (by show w.heap.size ≤ w.heap.size + 4; omega) _⟩
    · have HRM : Hid (need n ≤ (Bt.fr T (x.n - 35)).length) := by show _ ≤ _; omega
      have HZ : Hid (Bt.drwE T ((x.n - 35 : Nat) : Int) (need n : Int) = 0) := by show _ = _; rw [HDE.out, if_neg hroom]
      have HDR : Hid (Bt.drw T ((x.n - 35 : Nat) : Int) (need n : Int) = (Bt.fr T (x.n - 35)).take (need n)) := by
        show _ = _
        unfold Bt.drw
        rw [if_neg (by omega), Int.toNat_natCast, if_neg (by omega), Int.toNat_natCast]
      rw [HZ.out]
      rw [HDR.out] at HNS
      clear hroom
      go_wp2_with (refine wpList_load_part rfl 32 (.tmp 5) rfl _ 0 rfl _ Tryz.underlying32 rfl (sc s (.slice A n c)) 32 _ HB.out.b2 size_Sl (fun j u hu => by rw [Nat.zero_add]; exact hu) ?_)
      refine (inodeOf_any s A n c W HX.out.1 (by omega)).mono ?_
      rintro e w3 ⟨rfl, hw3⟩
      have HB3 := Lib.hid (HB.out.below hw3)
      have HG3 := Lib.hid (HG.out.below hw3)
      have HN3 := Lib.hid (BNS.below HNS.out hw3)
      have hlt3 := HG3.out.lt
      clear hw3 HB HG HNS
      go_upto_region 5 with (first
        | (refine wpList_alloc_any rfl 85 rfl _ zero_I ?_; intro w4 hb4 hs4 hw4)
        | (refine wpList_store_part rfl 85 (.tmp 10) (.tmp 30) rfl _ 0 (nic (Vl.nd s []) (.slice none 0 0)) rfl rfl 85 zI hb4 size_N (by simp [nic, zI]) (nic_row _ _ _ _) ?_
           intro w5 hb5 hs5 hk5))
      have HN5 : Hid (Bw w5 w3.heap.size (nic (Vl.nd s []) (.slice none 0 0)) 85) := hb5
      have hbl5 : Below w3.heap.size w3 w5 := hw4.trans (hk5.below2 (fun k hk => by omega))
      have HB5 := Lib.hid (HB3.out.below hbl5)
      have HG5 := Lib.hid (HG3.out.below hbl5)
      have HD5 := Lib.hid (BNS.below HN3.out hbl5)
      have hlt5 : w3.heap.size < w5.heap.size := HN5.out.lt
      clear hb4 hs4 hw4 hb5 hs5 hk5 hbl5 HB3 HG3 HN3
      generalize w3.heap.size = gN at *
      clear w4 w3
      simp only [Act.put]
      go_upto_region 6 with fail
      have hbl6 : Below w5.heap.size w5 (w5.alloc (.cells #[.func (.func 92) #[] #[.pointer (some ⟨gN, 0, none⟩), .pointer (some ⟨w.heap.size + 1, 0, none⟩), .pointer (some ⟨w.heap.size, 0, none⟩)]] 57)) := (Below.refl _ _).alloc (Nat.le_refl _) _
      have HB6 := Lib.hid (HB5.out.below hbl6)
      have HG6 := Lib.hid (HG5.out.below hbl6)
      have HD6 := Lib.hid (BNS.below HD5.out hbl6)
      have HN6 := Lib.hid (HN5.out.below hbl6)
      have HF6 : Hid (Bw (w5.alloc (.cells #[.func (.func 92) #[] #[.pointer (some ⟨gN, 0, none⟩), .pointer (some ⟨w.heap.size + 1, 0, none⟩), .pointer (some ⟨w.heap.size, 0, none⟩)]] 57)) w5.heap.size [.func (.func 92) #[] #[.pointer (some ⟨gN, 0, none⟩), .pointer (some ⟨w.heap.size + 1, 0, none⟩), .pointer (some ⟨w.heap.size, 0, none⟩)]] 57) := heap_alloc_new w5 _
      have hsz6 := World.size_alloc w5 (.cells #[.func (.func 92) #[] #[.pointer (some ⟨gN, 0, none⟩), .pointer (some ⟨w.heap.size + 1, 0, none⟩), .pointer (some ⟨w.heap.size, 0, none⟩)]] 57)
      clear hbl6 HB5 HG5 HD5 HN5
      generalize (w5.alloc (.cells #[.func (.func 92) #[] #[.pointer (some ⟨gN, 0, none⟩), .pointer (some ⟨w.heap.size + 1, 0, none⟩), .pointer (some ⟨w.heap.size, 0, none⟩)]] 57)) = w6 at *
      generalize w5.heap.size = gF at *
      clear w5
      have k6 : w6.cell? ⟨w.heap.size + 1 + 1, 8, none⟩ = some (.slice A n c) := HB6.out.b2.cell 8 _ rfl
      go_wp2_with fail
      refine (chunk_any A n c w6).mono ?_
      rintro e W0 ⟨rfl, hW0⟩
      have hbl : Below w6.heap.size w6 W0 := by rw [hW0]; exact ((Below.refl _ _).alloc (Nat.le_refl _) _).alloc (by simp) _
      have HSB : Hid (StB w W0 p m x S X AT nT cT T s A n c gD gN gF A5 k5 c5 ((Bt.fr T (x.n - 35)).take (need n))) := by
        have e1 := heap_alloc_new w6 (.cells #[.slice A n c] 30)
        have e2 := heap_alloc_new (w6.alloc (.cells #[.slice A n c] 30)) (.cells #[.int .i64 96] 3)
        rw [World.size_alloc] at e2
        refine ⟨HB6.out.below hbl, HG6.out.below hbl, BNS.below HD6.out hbl, HN6.out.below hbl, HF6.out.below hbl, ?_, ?_, hlt, hlt3, hlt5, by rw [hW0]; simp; omega, HX.out.below (HB6.out.below hbl).bel, fun h ad e => HX.out.lt_block h ad e, fun h ad e => ?_, HT.out.mlt⟩
        · rw [hW0, ← hsz6]; exact (Below.heap_alloc _ _ _ (by simp)).trans e1
        · rw [hW0, show gF + 2 = w6.heap.size + 1 by omega]; exact e2
        · rintro e'
          obtain ⟨b, o, e3, hc⟩ := HX.out.2 h
          have hl := HX.out.1
          rw [e] at e3
          cases e3
          obtain rfl : b = m := e'
          exact HT.out.puts.dull.no_int _ _ _ (hc 0 (by omega))
      simp only [hsz6]
      clear hW0 hbl HB6 HG6 HD6 HN6 HF6 k6 hsz6
      clear w6
      have hdr0 : ∀ b ∈ (Bt.fr T (x.n - 35)).take (need n), b < x.n - 35 := fun b hb => by
        have := List.mem_of_mem_take hb
        simp [Bt.fr] at this
        exact this.1
      have hdl0 : ((Bt.fr T (x.n - 35)).take (need n)).length = need n := by rw [List.length_take]; exact Nat.min_eq_left HRM.out
      obtain ⟨dr, hdr⟩ : ∃ dr, (Bt.fr T (x.n - 35)).take (need n) = dr := ⟨_, rfl⟩
      rw [hdr] at HSB hdr0 hdl0
      have HDQ := Lib.hid hdr
      have HDL := Lib.hid hdr0
      have HDN := Lib.hid hdl0
      have hn8 : need n ≤ 8 := by unfold need; omega
      clear hdr hdr0 hdl0 HDE HZ HDR
      have hbs0 : W0.cell? ⟨gF + 1, 0, none⟩ = some (.slice A n c) := HSB.out.cs.cell 0 _ rfl
      have hbn0 : W0.cell? ⟨gF + 2, 0, none⟩ = some (.int .i64 96) := HSB.out.cn.cell 0 _ rfl
      have hsz0 := HSB.out.sz
      have hml0 := HSB.out.ml
      have HBS0 := Lib.hid hbs0
      have HBN0 := Lib.hid hbn0
      have HSI0 : Hid (SI w W0 gN p m x (fun j => S j ∧ j ≠ w.heap.size + 3 ∧ j ≠ w.heap.size + 4) X T s dr 0 [] W0) := HSB.out.si HT.out HBT.out
      clear hbs0 hbn0
      go_wp2_with fail
      refine (wpIn_wide (n := 9)).1 ?_
      refine wpIn_rangeFunc_ownG rfl (by omega) (gf := 108) (lb := #[.pointer (some ⟨gF + 1, 0, none⟩), .pointer (some ⟨gF + 1 + 1, 0, none⟩)]) ?hg trivial (enters_of Tryz.func108 (by kernel_rfl) rfl)
        (chunk_stops (9 - 1) (by omega) (gF + 1) (gF + 1 + 1) A n c (fun h => by obtain ⟨b, o, e, _⟩ := HX.out.2 h; exact ⟨b, o, e⟩) HCP.out (fun j => j < W0.heap.size ∧ j ≠ m ∧ j ≠ w.heap.size + 1 ∧ j ≠ gN) W0 HBS0.out HBN0.out ⟨by omega, by omega, by omega, by omega⟩ ⟨by omega, by omega, by omega, by omega⟩ (by omega) (by omega) (by omega))
        (fun h k => Keep.trans h k) ?hKb (Below.refl _ _) (fun _ => rfl) (fun pre W => SI w W0 gN p m x (fun j => S j ∧ j ≠ w.heap.size + 3 ∧ j ≠ w.heap.size + 4) X T s dr pre.length (pre.map (Vl.part s.dt)) W) (fun _ _ _ => False) (fun pre W W' row h hg hr => SI.own h hg hr) ?hIx HSI0.out
        (fun y => { tmps := List.toArray (.pointer (some ⟨p, 0, none⟩) :: .slice AT nT cT :: .agg #[.int .u32 (s.ino : Int), .int .u32 (s.kind : Int), .int .u32 (s.gen : Int), .int .u32 (s.links : Int), .int .u32 (s.mode : Int), .int .u64 (s.change : Int), .int .u64 (s.cookie : Int), .int .u64 (s.verf : Int), .slice A n c] :: .pointer (some ⟨w.heap.size, 0, none⟩) :: .pointer (some ⟨w.heap.size + 1, 0, none⟩) :: .pointer (some ⟨w.heap.size + 1 + 1, 0, none⟩) :: .pointer (some ⟨w.heap.size + 1 + 1 + 1, 0, none⟩) :: .pointer (some ⟨w.heap.size + 1 + 1 + 1 + 1, 0, none⟩) :: .pointer (some ⟨gD, 0, none⟩) :: .int .i64 0 :: .pointer (some ⟨gN, 0, none⟩) :: .pointer (some ⟨gF, 0, none⟩) :: pv A n y :: undef :: undef :: .tuple #[.slice A5 k5 c5, .int .i64 0] :: .slice AT nT cT :: .pointer (some ⟨p, 0, none⟩) :: .int .i64 ((x.n - 35 : Nat) : Int) :: .pointer (some ⟨w.heap.size + 1 + 1, 8, none⟩) :: .slice A n c :: .int .i64 (n : Int) :: .int .i64 (need n : Int) :: .tuple #[.slice A5 k5 c5, .int .i64 0] :: .slice A5 k5 c5 :: .int .i64 0 :: .int .i64 0 :: .bool false :: undef :: .agg (sc s (.slice A n c)).toArray :: .agg (nic (Vl.nd s []) (.slice none 0 0)).toArray :: .func (.func 92) #[] #[.pointer (some ⟨gN, 0, none⟩), .pointer (some ⟨w.heap.size + 1, 0, none⟩), .pointer (some ⟨w.heap.size, 0, none⟩)] :: .pointer (some ⟨w.heap.size + 1 + 1, 8, none⟩) :: .slice A n c :: .func (.func 108) #[] #[.pointer (some ⟨gF + 1, 0, none⟩), .pointer (some ⟨gF + 1 + 1, 0, none⟩)] :: pv A n y :: undef :: undef :: undef :: undef :: undef :: undef :: undef :: undef :: undef :: undef :: undef :: undef :: undef :: undef :: undef :: undef :: undef :: undef :: undef :: undef :: undef :: undef :: undef :: undef :: undef :: undef :: undef :: undef :: []), defers := [] }) ?assign ?body ?done ?stop
      case hg => rfl
      case hKb =>
        intro W l o o' hl hb ho hw'
        have hg := grownBy_putObj' W l o'
        have hlt := (Array.getElem?_eq_some_iff.1 hb).1
        exact ⟨hg.os, hg.tape, hg.output, hg.size, fun k hk => hg.block k (by omega) (fun e => by cases e; omega)⟩
      case hIx =>
        intro c xs W W' row h
        exact h.elim
      case assign =>
        intro l y W K hK
        gi_wp2
        exact hK
      case stop =>
        rintro D c pre W hD _ h
        exact h.elim
      case body =>
        rintro lp pre y W hI hlen
        obtain ⟨A', c', hN1, -⟩ := hI.row
        have hsW := hI.keep.size
        have kF : W.cell? ⟨gF, 0, none⟩ = some (.func (.func 92) #[] #[.pointer (some ⟨gN, 0, none⟩), .pointer (some ⟨w.heap.size + 1, 0, none⟩), .pointer (some ⟨w.heap.size, 0, none⟩)]) := by
          have : Bw W gF _ _ := (hI.keep.block gF ⟨by omega, by omega, by omega, by omega⟩).trans HSB.out.bf
          exact this.cell 0 _ rfl
        have kD : W.cell? ⟨gD, 0, none⟩ = some (.slice A5 k5 c5) := by
          have : Bw W gD _ _ := (hI.keep.block gD ⟨by omega, by omega, by omega, by omega⟩).trans HSB.out.bd
          exact this.cell 0 _ rfl
        have kN : W.cell? ⟨gN, 8, none⟩ = some (.slice A' pre.length c') := hN1.cell 8 _ rfl
        have hns : BNS W A5 k5 dr := BNS.kept HSB.out.ns hI.keep (fun b o z hz => HSB.out.d64 HT.out b o z hz)
        have hk5 : dr.length = k5 := hns.1
        have hpk : pre.length < k5 := by rw [← hk5, HDN.out]; exact hlen
        have hpd : pre.length < dr.length := by omega
        obtain ⟨b5, o5, hA5, hcell⟩ := hns.2 (by omega)
        have kE : W.cell? ⟨b5, o5 + pre.length, none⟩ = some (.int .i64 (dr[pre.length] : Int)) := hcell pre.length hpd
        have HPT : Hid (BS W0 (A.map (·.add (96 * y))) (min 96 (n - 96 * y)) (Vl.part s.dt y)) := HSB.out.xs.pv y
        have HPB : Hid (0 < min 96 (n - 96 * y) → ∀ ad, A.map (·.add (96 * y)) = some ad → ad.block < W0.heap.size ∧ ad.block ≠ m ∧ ad.block ≠ w.heap.size + 1 ∧ ad.block ≠ gN) := by
          intro hp ad e
          obtain ⟨a0, e0, e1⟩ := Option.map_eq_some_iff.1 e
          have h1 := HSB.out.xl (by omega) a0 e0
          have h2 := HSB.out.xm (by omega) a0 e0
          have h3 : ad.block = a0.block := by
            obtain ⟨b, o, e2, _⟩ := HX.out.2 (by omega)
            rw [e0] at e2
            cases e2
            rw [← e1, add_plain]
          rw [h3]
          exact ⟨by omega, h2, by omega, by omega⟩
        have HIW := Lib.hid hI
        have HC1 := Lib.hid (store1_any hI.drew (fun j hj => ⟨HSN.out j (by omega), by omega, by omega⟩) hN2 hpd HDL.out HTL.out (by rw [HDN.out]; exact hn8) (A.map (·.add (96 * y))) (min 96 (n - 96 * y)) (min 96 (n - 96 * y)) (Vl.part s.dt y) (by rw [Vl.part_len]; omega) HPT.out HPB.out)
        have HPL : Hid ((pre ++ [y]).length = pre.length + 1) := by show _ = _; simp
        have HPM : Hid ((pre ++ [y]).map (Vl.part s.dt) = pre.map (Vl.part s.dt) ++ [Vl.part s.dt y]) := by show _ = _; simp
        generalize dr[pre.length] = db at *
        clear hI hN1 hns hcell HPT HPB hk5 hpd
        subst hA5
        gi_wp2_with fail
        with_reducible refine (wideF_round _ lp).region 8 (by kernel_rfl) (by kernel_rfl) (by kernel_rfl) ?_
        simp only [List.take_succ_cons, List.take_zero, List.drop_succ_cons, List.drop_zero]
        iterate 8 still_step
        refine wpStill_nil ?_
        change wpListIn _ _ _ _ _ _ _ (World.drew _)
        clear kF kD kN kE
        gi_wp2_with fail
        refine ⟨trivial, (wideF_round _ lp).call (HC1.out.mono ?_)⟩
        rintro e W3 ⟨rfl, hI3, hk3⟩
        have HI3 := Lib.hid hI3
        have HK3 := Lib.hid hk3
        clear hI3 hk3 HC1
        gi_wp2
        refine ⟨KeepsFrom.trans (KF.below (Below.refl _ _).drew) HK3.out, HIW.out.keep.of2 HI3.out.keep HK3.out.1, ?_⟩
        show SI w W0 gN p m x (fun j => S j ∧ j ≠ w.heap.size + 3 ∧ j ≠ w.heap.size + 4) X T s dr (pre ++ [y]).length ((pre ++ [y]).map (Vl.part s.dt)) W3
        rw [HPL.out, HPM.out]
        exact HI3.out
      case done =>
        rintro D ys W hD rfl hI hK
        rw [List.length_range, List.range_eq_range', ← HDN.out] at hI
        obtain ⟨A1, c1, hN1, hrow, ⟨AT1, nT1, cT1, hb1, hbs1, -⟩, Y, ht1, hY1, hY2⟩ := hI.row
        rw [List.take_length] at hN1 hrow hbs1 hY2
        rw [Vl.putP_range] at hY2
        have hsW := hI.keep.size
        have HCH := Lib.hid hI.ch
        have HK := Lib.hid hK
        have HN1 := Lib.hid hN1
        have HR1 := Lib.hid (NS.of_own hrow)
        have HB1 := Lib.hid hb1
        have HBS1 := Lib.hid hbs1
        have HT1 := Lib.hid ht1
        have HY : Hid (Y.l = X.l ∧ Y.get = Vl.putD s.dt dr 0 X.get) := ⟨hY1, hY2⟩
        have HBT0 := Lib.hid hI.bt
        have HB3 : Hid (Bw W (w.heap.size + 3) [.slice none 0 0] 30) := (hI.keep.block _ ⟨by omega, by omega, by omega, by omega⟩).trans HSB.out.b5.b3
        have HB4 : Hid (Bw W (w.heap.size + 4) [.int .i64 0] 34) := (hI.keep.block _ ⟨by omega, by omega, by omega, by omega⟩).trans HSB.out.b5.b4
        have HB2 : Hid (Bw W (w.heap.size + 2) (sc s (.slice A n c)) 32) := (hI.keep.block _ ⟨by omega, by omega, by omega, by omega⟩).trans HSB.out.b5.b2
        have HOWB : Hid (∀ j, (Value.slice A1 dr.length c1).ownBlock = some j → j < W.heap.size) := Lib.hid fun j e => (hrow.lt j e).2
        clear hI hN1 hrow hb1 hbs1 ht1 hY1 hY2 hK
        obtain ⟨dl, hdl⟩ : ∃ dl, dr.length = dl := ⟨_, rfl⟩
        rw [hdl] at HDN HR1 HN1 HT1 HOWB
        have hdlen : Hid (dr.length = dl) := hdl
        clear hdl
        go_wp2_with (refine wpList_load_part rfl 85 (.tmp 10) rfl _ 0 rfl _ Tryz.underlying85 rfl (nic (Vl.nd s dr) (.slice A1 dl c1)) 85 _ HN1.out size_N (fun j u hu => by rw [Nat.zero_add]; exact hu) ?_)
        have HCHK : Hid ((Vl.nd s dr).Wide ∧ (Vl.nd s dr).chk = 0) := by
          have hnd : dr.Nodup := by
            rw [← HDQ.out]
            exact (List.nodup_range.sublist List.filter_sublist).sublist (List.take_sublist _ _)
          have hlen : dr.length = need s.dt.length := by rw [hdlen.out, HDN.out, HX.out.1]
          refine ⟨Vl.nd_wide HOK.out HF.out.wide (fun b hb => by have := HDL.out b hb; omega), ?_⟩
          unfold Nd.chk
          exact if_pos (Vl.nd_ok HOK.out hlen hnd)
        refine (putI_any s.kind s.gen s.links s.mode s.dt.length s.change s.cookie s.verf A1 dl c1 dr W HCHK.out.1 HR1.out (by have := HDN.out; omega)).mono ?_
        rintro e W5 ⟨A6, n6, c6, rfl, hb6, hw6⟩
        have hchk : (Nd.mk s.kind s.gen s.links s.mode s.dt.length s.change s.cookie s.verf dr).chk = 0 := HCHK.out.2
        rw [hchk]
        have HB6 := Lib.hid hb6
        have HCH6 := Lib.hid (HCH.out.step hw6)
        have HK6 : Hid (W5.heap[D]? = some (Obj.deferred (some []))) := (hw6.block D (Array.getElem?_eq_some_iff.1 HK.out).1).trans HK.out
        have HB16 := Lib.hid (HB1.out.below hw6)
        have HBS6 := Lib.hid (HBS1.out.below hw6)
        have HT6 := Lib.hid (HT1.out.below hw6)
        have HBT6 := Lib.hid (HBT0.out.below hw6)
        have HB36 := Lib.hid (HB3.out.below hw6)
        have HB46 := Lib.hid (HB4.out.below hw6)
        have HB26 := Lib.hid (HB2.out.below hw6)
        have HOWN : Hid (∀ j, W5.heap.size ≤ j → (S j ∧ j ≠ w.heap.size + 3 ∧ j ≠ w.heap.size + 4) ∧ j ≠ w.heap.size + 1 ∧ j ≠ gN ∧ (Value.slice A1 dl c1).ownBlock ≠ some j) := by
          show ∀ j, _
          intro j hj
          have h1 := hw6.size
          refine ⟨⟨HSN.out j (by omega), by omega, by omega⟩, by omega, by omega, fun e => ?_⟩
          have := HOWB.out j e
          omega
        clear hb6 hw6 HCH HK HB1 HBS1 HT1 HBT0 HB3 HB4 HB2 HN1 HR1
        have hino : s.ino < 24 := by have := (Vl.okB_facts HOK.out).1; omega
        go_wp2_with fail
        refine Code.wp_mono (Q := only fun _ a V => a = { tmps := List.toArray (.pointer (some ⟨p, 0, none⟩) :: .slice AT nT cT :: .agg #[.int .u32 (s.ino : Int), .int .u32 (s.kind : Int), .int .u32 (s.gen : Int), .int .u32 (s.links : Int), .int .u32 (s.mode : Int), .int .u64 (s.change : Int), .int .u64 (s.cookie : Int), .int .u64 (s.verf : Int), .slice A n c] :: .pointer (some ⟨w.heap.size, 0, none⟩) :: .pointer (some ⟨w.heap.size + 1, 0, none⟩) :: .pointer (some ⟨w.heap.size + 1 + 1, 0, none⟩) :: .pointer (some ⟨w.heap.size + 1 + 1 + 1, 0, none⟩) :: .pointer (some ⟨w.heap.size + 1 + 1 + 1 + 1, 0, none⟩) :: .pointer (some ⟨gD, 0, none⟩) :: .int .i64 0 :: .pointer (some ⟨gN, 0, none⟩) :: .pointer (some ⟨gF, 0, none⟩) :: undef :: undef :: .slice A6 n6 c6 :: .tuple #[.slice A5 k5 c5, .int .i64 0] :: .slice AT nT cT :: .pointer (some ⟨p, 0, none⟩) :: .int .i64 ((x.n - 35 : Nat) : Int) :: .pointer (some ⟨w.heap.size + 1 + 1, 8, none⟩) :: .slice A n c :: .int .i64 (n : Int) :: .int .i64 (need n : Int) :: .tuple #[.slice A5 k5 c5, .int .i64 0] :: .slice A5 k5 c5 :: .int .i64 0 :: .int .i64 0 :: .bool false :: undef :: .agg (sc s (.slice A n c)).toArray :: .agg (nic (Vl.nd s []) (.slice none 0 0)).toArray :: .func (.func 92) #[] #[.pointer (some ⟨gN, 0, none⟩), .pointer (some ⟨w.heap.size + 1, 0, none⟩), .pointer (some ⟨w.heap.size, 0, none⟩)] :: .pointer (some ⟨w.heap.size + 1 + 1, 8, none⟩) :: .slice A n c :: .func (.func 108) #[] #[.pointer (some ⟨gF + 1, 0, none⟩), .pointer (some ⟨gF + 1 + 1, 0, none⟩)] :: undef :: undef :: undef :: undef :: undef :: undef :: undef :: undef :: undef :: undef :: undef :: undef :: undef :: .tuple #[.slice A6 n6 c6, .int .i64 0] :: .agg (nic (Vl.nd s dr) (.slice A1 dl c1)).toArray :: .tuple #[.slice A6 n6 c6, .int .i64 0] :: .slice A6 n6 c6 :: .int .i64 0 :: .int .i64 0 :: .bool false :: undef :: .slice AT1 nT1 cT1 :: .pointer (some ⟨p, 0, none⟩) :: .pointer (some ⟨w.heap.size + 1 + 1, 0, none⟩) :: .int .u32 (s.ino : Int) :: .int .i64 (s.ino : Int) :: .int .i64 (11 + (s.ino : Int)) :: .slice A6 n6 c6 :: .int .i64 0 :: []), defers := [{ target := .collected D, args := #[] }] } ∧ StoE w V D p m x S X T s dr AT1 nT1 cT1) ?rest2 ?last
        case last =>
          have HS0 : Hid ((fun W : World => W.cell? ⟨w.heap.size + 1, 0, none⟩ = some (.slice AT1 nT1 cT1) ∧ W.cell? ⟨w.heap.size, 0, none⟩ = some (.pointer (some ⟨p, 0, none⟩)) ∧ W.cell? ⟨w.heap.size + 1 + 1, 0, none⟩ = some (.int .u32 (s.ino : Int))) W5.drew) := ⟨HB16.out.cell 0 _ rfl, HBT6.out.cell 0 _ rfl, HB26.out.cell 0 _ rfl⟩
          refine wp_region_held_drew (S := (fun W : World => W.cell? ⟨w.heap.size + 1, 0, none⟩ = some (.slice AT1 nT1 cT1) ∧ W.cell? ⟨w.heap.size, 0, none⟩ = some (.pointer (some ⟨p, 0, none⟩)) ∧ W.cell? ⟨w.heap.size + 1 + 1, 0, none⟩ = some (.int .u32 (s.ino : Int)))) (by kernel_rfl) HS0.out (fun _ => ?_)
          change wpAnyH _ _ _ _ _ 10 (Array.replicate 10 false) _ _
          refine takeH (i := 0) 56 (.slice AT1 nT1 cT1) rfl rfl (by kernel_rfl) (by kernel_rfl) (by kernel_rfl) (fun _ _ _ h => h) (.inl ⟨by rfl, fun W hW => by (have hz := hW.1; go_simp)⟩) HS0.out ?_
          simp only [Act.put, List.setIfInBounds_toArray, List.set_cons_zero, List.set_cons_succ]
          refine takeH (i := 1) 57 (.pointer (some ⟨p, 0, none⟩)) rfl rfl (by kernel_rfl) (by kernel_rfl) (by kernel_rfl) (fun _ _ _ h => h) (.inl ⟨by rfl, fun W hW => by (have hz := hW.2.1; go_simp)⟩) HS0.out ?_
          simp only [Act.put, List.setIfInBounds_toArray, List.set_cons_zero, List.set_cons_succ]
          refine takeH (i := 2) 58 (.pointer (some ⟨w.heap.size + 1 + 1, 0, none⟩)) rfl rfl (by kernel_rfl) (by kernel_rfl) (by kernel_rfl) (fun _ _ _ h => h) (.inl ⟨by rfl, fun W hW => by go_simp⟩) HS0.out ?_
          simp only [Act.put, List.setIfInBounds_toArray, List.set_cons_zero, List.set_cons_succ]
          refine takeH (i := 3) 59 (.int .u32 (s.ino : Int)) rfl rfl (by kernel_rfl) (by kernel_rfl) (by kernel_rfl) (fun _ _ _ h => h) (.inl ⟨by rfl, fun W hW => by (have hz := hW.2.2; go_simp)⟩) HS0.out ?_
          simp only [Act.put, List.setIfInBounds_toArray, List.set_cons_zero, List.set_cons_succ]
          refine takeH (i := 4) 60 (.int .i64 (s.ino : Int)) rfl rfl (by kernel_rfl) (by kernel_rfl) (by kernel_rfl) (fun _ _ _ h => h) (.inl ⟨by rfl, fun W hW => by (go_simp; exact IntWalk.i64_in _ (by omega))⟩) HS0.out ?_
          simp only [Act.put, List.setIfInBounds_toArray, List.set_cons_zero, List.set_cons_succ]
          refine takeH (i := 5) 61 (.int .i64 (11 + (s.ino : Int))) rfl rfl (by kernel_rfl) (by kernel_rfl) (by kernel_rfl) (fun _ _ _ h => h) (.inl ⟨by rfl, fun W hW => by (go_simp; exact IntWalk.i64_in _ (by omega))⟩) HS0.out ?_
          simp only [Act.put, List.setIfInBounds_toArray, List.set_cons_zero, List.set_cons_succ]
          refine takeH (i := 6) 62 (.slice A6 n6 c6) rfl rfl (by kernel_rfl) (by kernel_rfl) (by kernel_rfl) (fun _ _ _ h => h) (.inl ⟨by rfl, fun W hW => by go_simp⟩) HS0.out ?_
          simp only [Act.put, List.setIfInBounds_toArray, List.set_cons_zero, List.set_cons_succ]
          refine wpAnyH_ready (rs := [7]) (by kernel_rfl) (by simp) ?_
          refine AllReadyH.cons rfl (fun K hK => ?_) AllReadyH.nil
          go_simp
          rw [show (11 : Int) + (s.ino : Int) = ((11 + s.ino : Nat) : Int) by omega]
          refine (putX_any HT6.out.drew HOWN.out (11 + s.ino) (by omega) A6 n6 c6 _ HB6.out (Nat.le_trans (Nd.put_len _) (by omega))).mono ?_
          rintro e W6 ⟨rfl, ht6, hc6'⟩
          have hc6 : Ch (· = m) W5 W6 := ⟨⟨hc6'.1.os, hc6'.1.tape, hc6'.1.output, hc6'.1.size, hc6'.1.block⟩, hc6'.2⟩
          clear hc6'
          have HSz : Hid ((fun W : World => W.cell? ⟨w.heap.size + 1, 0, none⟩ = some (.slice AT1 nT1 cT1) ∧ W.cell? ⟨w.heap.size, 0, none⟩ = some (.pointer (some ⟨p, 0, none⟩)) ∧ W.cell? ⟨w.heap.size + 1 + 1, 0, none⟩ = some (.int .u32 (s.ino : Int))) W6) := ⟨(HB16.out.ch hc6 (by decide)).cell 0 _ rfl, (HBT6.out.ch hc6 (by decide)).cell 0 _ rfl, (HB26.out.ch hc6 (by decide)).cell 0 _ rfl⟩
          have HE6 : Hid (StoF w W6 D p m x S X T s dr AT1 nT1 cT1) := ⟨HB36.out.ch hc6 (by decide), HB46.out.ch hc6 (by decide), HBS6.out.ch hc6, ⟨_, ht6.mono fun j hj => hj.1, HY.out.1, by rw [TX.put_get, HY.out.2]; rfl⟩, HCH6.out.step' hc6, (hc6.1.block D ⟨(Array.getElem?_eq_some_iff.1 HK6.out).1, by omega⟩).trans HK6.out, by omega⟩
          refine hK.out _ _ HSz.out fun _ => ?_
          clear hK K ht6 hc6
          refine wpAnyH_ready (rs := [8]) (by kernel_rfl) (by simp) ?_
          refine AllReadyH.cons rfl (fun K hK => ?_) AllReadyH.nil
          have gk : W6.cell? ⟨w.heap.size + 1 + 1 + 1, 0, none⟩ = some (.slice none 0 0) := HE6.out.b3.cell 0 _ rfl
          have gf : W6.frozen? ⟨w.heap.size + 1 + 1 + 1, 0, none⟩ = false := HE6.out.b3.froz 0
          go_simp
          have hE7 := HE6.out.set (.slice AT1 nT1 cT1)
          have HE7 : Hid (StoE w (W6.setCell ⟨w.heap.size + 1 + 1 + 1, 0, none⟩ (.slice AT1 nT1 cT1)) D p m x S X T s dr AT1 nT1 cT1) := hE7
          have hne : ∀ (k o : Nat), k < w.heap.size + 3 → (W6.setCell ⟨w.heap.size + 1 + 1 + 1, 0, none⟩ (.slice AT1 nT1 cT1)).cell? ⟨k, o, none⟩ = W6.cell? ⟨k, o, none⟩ := fun k o hk => World.cell?_of_block (a := ⟨k, o, none⟩) (Below.heap_setCell _ _ _ _ (by show k ≠ w.heap.size + 1 + 1 + 1; omega))
          have HS8 : Hid ((fun W : World => W.cell? ⟨w.heap.size + 1, 0, none⟩ = some (.slice AT1 nT1 cT1) ∧ W.cell? ⟨w.heap.size, 0, none⟩ = some (.pointer (some ⟨p, 0, none⟩)) ∧ W.cell? ⟨w.heap.size + 1 + 1, 0, none⟩ = some (.int .u32 (s.ino : Int))) (W6.setCell ⟨w.heap.size + 1 + 1 + 1, 0, none⟩ (.slice AT1 nT1 cT1))) := ⟨(hne _ _ (by omega)).trans HSz.out.1, (hne _ _ (by omega)).trans HSz.out.2.1, (hne _ _ (by omega)).trans HSz.out.2.2⟩
          refine hK.out _ _ HS8.out fun _ => ?_
          clear hK K hE7 hne gk gf HE6 HSz
          generalize (W6.setCell ⟨w.heap.size + 1 + 1 + 1, 0, none⟩ (.slice AT1 nT1 cT1)) = W7 at *
          refine wpAnyH_ready (rs := [9]) (by kernel_rfl) (by simp) ?_
          refine AllReadyH.cons rfl (fun K hK => ?_) AllReadyH.nil
          have gk : W7.cell? ⟨w.heap.size + 1 + 1 + 1 + 1, 0, none⟩ = some (.int .i64 0) := HE7.out.b4.cell 0 _ rfl
          have gf : W7.frozen? ⟨w.heap.size + 1 + 1 + 1 + 1, 0, none⟩ = false := HE7.out.b4.froz 0
          go_simp
          have HE8 : Hid (StoE w (W7.setCell ⟨w.heap.size + 1 + 1 + 1 + 1, 0, none⟩ (.int .i64 0)) D p m x S X T s dr AT1 nT1 cT1) := HE7.out.set4
          have hne : ∀ (k o : Nat), k < w.heap.size + 4 → (W7.setCell ⟨w.heap.size + 1 + 1 + 1 + 1, 0, none⟩ (.int .i64 0)).cell? ⟨k, o, none⟩ = W7.cell? ⟨k, o, none⟩ := fun k o hk => World.cell?_of_block (a := ⟨k, o, none⟩) (Below.heap_setCell _ _ _ _ (by show k ≠ w.heap.size + 1 + 1 + 1 + 1; omega))
          have HS9 : Hid ((fun W : World => W.cell? ⟨w.heap.size + 1, 0, none⟩ = some (.slice AT1 nT1 cT1) ∧ W.cell? ⟨w.heap.size, 0, none⟩ = some (.pointer (some ⟨p, 0, none⟩)) ∧ W.cell? ⟨w.heap.size + 1 + 1, 0, none⟩ = some (.int .u32 (s.ino : Int))) (W7.setCell ⟨w.heap.size + 1 + 1 + 1 + 1, 0, none⟩ (.int .i64 0))) := ⟨(hne _ _ (by omega)).trans HS8.out.1, (hne _ _ (by omega)).trans HS8.out.2.1, (hne _ _ (by omega)).trans HS8.out.2.2⟩
          refine hK.out _ _ HS9.out fun _ => ?_
          refine wpAnyH_done (by kernel_rfl) ?_ _
          exact ⟨rfl, HE8.out⟩
        case rest2 =>
          rintro e a V h
          cases e
          all_goals first | exact h.elim | skip
          obtain ⟨rfl, hE⟩ := h
          have HE := Lib.hid hE
          clear hE
          simp only [Exit.then]
          go_wp2_with fail
          obtain ⟨hF, hFch⟩ := HE.out.fin
          refine ⟨by simp, .inl ⟨_, _, rfl, run_takeDeferred HE.out.df, ?_⟩⟩
          refine ⟨_, results_cells2 rfl _ _ _ _ _ _ Tryz.underlying30 rfl Tryz.underlying34 rfl (by rfl) (by rfl) (hF.1.cell 0 _ rfl) (hF.2.1.cell 0 _ rfl), ?_⟩
          unfold StoQ
          rw [if_pos (by rw [HX.out.1]; exact HRM.out)]
          obtain ⟨Z, h1, h2, h3⟩ := hF.2.2.2
          rw [HX.out.1, HDQ.out]
          exact ⟨_, _, _, Z, rfl, hF.2.2.1, h1, h2, h3, hFch⟩
end
end Go.Proofs.YtnhokkdieijkhaaGreatDoor

namespace Go.Proofs.YtnhokkdieijkhaaGreatDoor
open Go.RowKit Go.Shelf
attribute [local go_sem] Oper.semAt_some

theorem SS.ch {Q : Nat → Prop} {w w' : World} {A : Option Addr} {n : Nat} {l : List Vl.Th} (h : SS w A n l) (hc : Ch Q w w') : SS w' A n l := by
  refine ⟨h.1, fun hn => ?_⟩
  obtain ⟨b, o, e, hcell⟩ := h.2 hn
  refine ⟨b, o, e, fun k hl => ?_⟩
  obtain ⟨y, h1, h2, h3⟩ := hcell k hl
  refine ⟨y, fun j u hu => ?_, h2.ch hc, h3⟩
  have h0 := h1 0 _ rfl
  exact (World.cell?_of_block (a := ⟨b, o + k * 9 + j, none⟩) (hc.1.block b ⟨World.block_lt_of_cell? w _ h0, fun hq => (hc.2 b hq).no_int _ _ _ h0⟩)).trans (h1 j u hu)
/-- While blocks are given back and drawn. -/
structure RpI (w : World) (p m : Nat) (x : Sl) (S : Nat → Prop) (X : TX) (st : Vl.St) (A : Option Addr) (n : Nat) (W : World) : Prop where
  ch : Ch (· = m) w W
  bs : BS W A n st.T
  tl : st.T.length ≤ 96
  tq : ∃ Y, Tq W p m x S Y ∧ Y.l = X.l ∧ Y.get = st.B
theorem RpI.below {w W W' : World} {p m : Nat} {x : Sl} {S : Nat → Prop} {X : TX} {st : Vl.St} {A : Option Addr} {n : Nat} (h : RpI w p m x S X st A n W) (hb : Below W.heap.size W W') : RpI w p m x S X st A n W' := by
  obtain ⟨Y, h1, h2, h3⟩ := h.tq
  exact ⟨h.ch.step hb, h.bs.below hb, h.tl, Y, h1.below hb, h2, h3⟩
/-- Where a stands of what is still to give back. -/
structure GvI (X : TX) (bl : Nat → List Nat) (g : Vl.St) (r : List Vl.Th) (st : Vl.St) : Prop where
  go : Vl.gv r st = g
  low : ∀ j, j < 35 → st.B j = X.get j
  own : ∀ s ∈ r, st.bl s.ino = bl s.ino
  trim : Bt.Trimmed st.T
theorem GvI.next {X : TX} {bl : Nat → List Nat} {g st : Vl.St} {s : Vl.Th} {r : List Vl.Th} (h : GvI X bl g (s :: r) st) (hn : s.ino ∉ r.map Vl.Th.ino) : GvI X bl g r (st.give s.ino) := by
  refine ⟨h.go, fun j hj => ?_, fun s' hs => ?_, Vl.giv_trim _ _ h.trim⟩
  · show Vl.clr st.B _ j = _
    rw [Vl.clr_at, if_neg, h.low j hj]
    rintro ⟨b, _, e⟩
    omega
  · show Vl.upd st.bl s.ino [] s'.ino = _
    rw [Vl.upd_other _ _ (fun e => hn (by rw [← e]; exact List.mem_map_of_mem hs))]
    exact h.own s' (List.mem_cons_of_mem _ hs)
/-- What replace hands back. -/
def RepQ (w : World) (p m : Nat) (x : Sl) (S : Nat → Prop) (X : TX) (r : Option Vl.St) (e : Ending) (w' : World) : Prop :=
  (∃ Y, Tq w' p m x S Y ∧ Y.l = X.l ∧ ∀ st, r = some st → Y.get = Vl.upd st.B 9 st.T ∧ st.T.length ≤ 96) ∧ Ch (· = m) w w' ∧ e = .returned (.int .i64 (match r with | some _ => 0 | none => 66))
section
variable {w : World} {p m : Nat} {x : Sl} {S : Nat → Prop} {X : TX}
set_option maxRecDepth 100000 in
set_option maxHeartbeats 2000000 in
theorem replace_any (h : Tq w p m x S X) (hS : ∀ k, w.heap.size ≤ k → S k) (hN : 36 ≤ x.n) (hN2 : x.n ≤ 803) (hs : ∀ i, (X.get i).length ≤ 96) (Sv : Nat → Vl.Th) (bl : Nat → List Nat) (hv : Vl.Vol Sl.dirB x.n X.get Sv bl)
    (A : Option Addr) (n c : Nat) (l : List Vl.Th) (hl : SS w A n l) (hm : Vl.May Sl.dirB l) (hn : n ≤ 1000000) :
    Calls Tryz.prog 37 #[.pointer (some ⟨p, 0, none⟩), .slice A n c] w (RepQ w p m x S X (Vl.save x.n l X.get Sv bl)) := by
  have HT := Lib.hid h
  have HSN := Lib.hid hS
  have HX := Lib.hid hl
  have HSM := Lib.hid hs
  have HV := Lib.hid hv
  have HM := Lib.hid hm
  have HLN : Hid (l.length = n) := hl.1
  clear h hS hs hv hl hm
  go_enter Tryz.func37, Tryz.ntmps37
  go_wp2_with fail
  refine (get_ok HT.out 9 (by omega)).mono ?_
  rintro e w1 ⟨A1, n1, c1, rfl, hb, -, -, -, hw1, -⟩
  have HR0 : Hid (RpI w p m x S X ⟨X.get 9, X.get, Sv, bl⟩ A1 n1 w1) := ⟨⟨Fr.of_below hw1, fun k hk => by rw [hk]; exact HT.out.puts.dull⟩, hb, HSM.out 9, X, HT.out.below hw1, rfl, rfl⟩
  have HG0 : Hid (GvI X bl (Vl.gv l ⟨X.get 9, X.get, Sv, bl⟩) (l.drop 0) ⟨X.get 9, X.get, Sv, bl⟩) := ⟨rfl, fun _ _ => rfl, fun _ _ => rfl, HV.out.trim⟩
  have HSV : Hid (Vl.save x.n l X.get Sv bl = Vl.ly (x.n - 35) l (Vl.gv l ⟨X.get 9, X.get, Sv, bl⟩)) := rfl
  clear hb hw1
  generalize Vl.save x.n l X.get Sv bl = res at *
  generalize Vl.gv l ⟨X.get 9, X.get, Sv, bl⟩ = g at *
  go_wp2_with fail
  go_loopw [17, 5] (fun i t wr => ∃ (k : Nat) (A' : Option Addr) (n' c' : Nat) (st : Vl.St), k ≤ n ∧ i = .int .i64 k ∧ t = .slice A' n' c' ∧ Hid (RpI w p m x S X st A' n' wr) ∧ Hid (GvI X bl g (l.drop k) st)) (fun i _ _ => n - (intOf i).toNat)
  case atStart => exact ⟨0, A1, n1, c1, _, by omega, rfl, rfl, HR0, HG0⟩
  case round =>
    clear HR0 HG0
    obtain ⟨k, A', n', c', st, hk, rfl, rfl, HR, HG⟩ := hrel
    by_cases hlt : k < n
    · have hsz := HR.out.ch.size
      obtain ⟨b, o, y, hl, rfl, hc, hbs, -⟩ := (HX.out.ch HR.out.ch).at hlt
      have HDR : Hid (l.drop k = l[k] :: l.drop (k + 1)) := List.drop_eq_getElem_cons hl
      have HSO : Hid (Sl.okS l[k] = true ∧ l[k].ino ∉ (l.drop (k + 1)).map Vl.Th.ino) := by
        refine ⟨HM.out.ok _ (List.getElem_mem hl), ?_⟩
        have h1 := HM.out.apart
        have h2 : ((l.drop k).map Vl.Th.ino).Nodup := h1.sublist ((List.drop_sublist k l).map _)
        rw [HDR.out, List.map_cons, List.nodup_cons] at h2
        exact h2.1
      generalize l[k] = s at *
      have hi24 : s.ino < 24 := by have := (Vl.okB_facts HSO.out.1).1; omega
      have HG2 : Hid (GvI X bl g (l.drop (k + 1)) (st.give s.ino)) := by
        have := HG.out
        rw [HDR.out] at this
        exact this.next HSO.out.2
      have HOW : Hid (st.bl s.ino = bl s.ino) := HG.out.own s (by rw [HDR.out]; exact List.mem_cons_self)
      have HTRM : Hid (Bt.Trimmed st.T) := HG.out.trim
      obtain ⟨Y, ht, hY1, hY2⟩ := HR.out.tq
      have hget : ∀ W, Below wr.heap.size wr W → Calls Tryz.prog 22 #[.pointer (some ⟨p, 0, none⟩), .int .i64 ((11 + s.ino : Nat) : Int)] W (GotB W (Y.get (11 + s.ino))) := fun W hW => get_ok (ht.below hW) (11 + s.ino) (by omega)
      have hnode := HV.out.node hN2 hi24
      rw [hY2, HG.out.low _ (by omega)] at hget
      have hln := HSM.out (11 + s.ino)
      have hndf : (Vl.nd (Sv s.ino) (bl s.ino)).Wide ∧ (Vl.nd (Sv s.ino) (bl s.ino)).bl.length ≤ 8 ∧ (∀ b ∈ (Vl.nd (Sv s.ino) (bl s.ino)).bl, b < x.n - 35) ∧ (Vl.nd (Sv s.ino) (bl s.ino)).bl = bl s.ino := by
        refine ⟨Vl.nd_wide (HV.out.vp.ok _ hi24) (HV.out.vp.wide _ hi24) fun z hz => by have := HV.out.vp.mem hi24 hz; omega, ?_, fun z hz => HV.out.vp.mem hi24 hz, rfl⟩
        show (bl s.ino).length ≤ 8
        rw [HV.out.vp.len _ hi24 (fun h => h)]
        have := (Vl.okB_facts (HV.out.vp.ok _ hi24)).2.2
        unfold need
        omega
      generalize X.get (11 + s.ino) = bts at *
      have HGET := Lib.hid hget
      have HERR := Lib.hid hnode
      have HNDF := Lib.hid hndf
      have HLNB := Lib.hid hln
      have HTY : Hid (Tq wr p m x S Y ∧ Y.l = X.l ∧ Y.get = st.B) := ⟨ht, hY1, hY2⟩
      have q0 : wr.cell? ⟨b, o + k * 9, none⟩ = some (.int .u32 (s.ino : Int)) := hc 0 _ rfl
      have q1 := hc 1 _ rfl
      have q2 := hc 2 _ rfl
      have q3 := hc 3 _ rfl
      have q4 := hc 4 _ rfl
      have q5 := hc 5 _ rfl
      have q6 := hc 6 _ rfl
      have q7 := hc 7 _ rfl
      have q8 := hc 8 _ rfl
      clear hc hbs hget hnode hndf hln ht hY1 hY2
      go_upto_region 5 with (first
        | (refine wpList_alloc_any rfl 32 rfl _ zero_Sl ?_; intro w2 hb2 hs2 hw2)
        | (refine wpList_store_part rfl 32 (.tmp 7) (.tmp 20) rfl _ 0 (sc s (.slice y.a y.n y.c)) rfl rfl 32 (sc Sl.zero (.slice none 0 0)) hb2 size_Sl (by simp [sc]) (sc_row _ _ _ _) ?_
           intro w3 hb3 hs3 hk3))
      have HV3 : Hid (Bw w3 wr.heap.size (sc s (.slice y.a y.n y.c)) 32) := hb3
      have hbw : Below wr.heap.size wr w3 := hw2.trans (hk3.below2 (fun k hk => by omega))
      have k0 := HV3.out.cell 0 _ rfl
      have HR3 := Lib.hid (HR.out.below hbw)
      have HBW := Lib.hid hbw
      have HT3 := Lib.hid (HTY.out.1.below hbw)
      clear hb2 hs2 hw2 hb3 hs3 hk3 hbw q0 q1 q2 q3 q4 q5 q6 q7 q8
      go_wp2_with fail
      rw [show (11 : Int) + (s.ino : Int) = ((11 + s.ino : Nat) : Int) by omega]
      refine (HGET.out w3 HBW.out).mono ?_
      rintro e w4 ⟨A4, n4, c4, rfl, hb4, -, -, -, hw4, -⟩
      have HB4 := Lib.hid hb4
      have HR4 := Lib.hid (HR3.out.below hw4)
      have HT4 := Lib.hid (HT3.out.below hw4)
      clear hb4 hw4 HR3 HT3 HGET
      go_wp2_with fail
      refine (getI_any A4 n4 c4 _ w4 HB4.out (by rw [← HB4.out.1]; exact Nat.le_trans HLNB.out (by omega))).mono ?_
      rintro e w5 ⟨B5, c5, rfl, hns, hw5⟩
      rw [HERR.out.1, HERR.out.2]
      rw [HERR.out.2] at hns
      have HN5 := Lib.hid hns
      have HR5 := Lib.hid (HR4.out.below hw5)
      have HT5 := Lib.hid (HT4.out.below hw5)
      clear hns hw5 HR4 HT4 HB4 HERR k0
      generalize Vl.nd (Sv s.ino) (bl s.ino) = nd at *
      go_upto_region 6 with (first
        | (refine wpList_alloc_any rfl 85 rfl _ zero_I ?_; intro w6 hb6 hs6 hw6)
        | (refine wpList_store_part rfl 85 (.tmp 8) (.tmp 29) rfl _ 0 (nic nd (.slice B5 nd.bl.length c5)) rfl rfl 85 zI hb6 size_N (by simp [nic, zI]) (nic_row _ _ _ _) ?_
           intro w7 hb7 hs7 hk7))
      have HG7 : Hid (Bw w7 w5.heap.size (nic nd (.slice B5 nd.bl.length c5)) 85) := hb7
      have hbw : Below w5.heap.size w5 w7 := hw6.trans (hk7.below2 (fun k hk => by omega))
      have HN7 := Lib.hid (HN5.out.below hbw)
      have HR7 := Lib.hid (HR5.out.below hbw)
      have HT7 := Lib.hid (HT5.out.below hbw)
      clear hb6 hs6 hw6 hb7 hs7 hk7 hbw HN5 HR5 HT5
      go_wp2_with (refine wpList_load_part rfl 85 (.tmp 8) rfl _ 0 rfl _ Tryz.underlying85 rfl (nic nd (.slice B5 nd.bl.length c5)) 85 _ HG7.out size_N (fun j u hu => by rw [Nat.zero_add]; exact hu) ?_)
      refine (release_any HT7.out (fun k hk => HSN.out k (by have := HR7.out.ch.size; omega)) hN hN2 nd HNDF.out.1 HNDF.out.2.1 HNDF.out.2.2.1 B5 c5 HN7.out A' n' c' HR7.out.bs HR7.out.tl HTRM.out).mono ?_
      rintro e w8 ⟨A8, n8, c8, Y8, rfl, hb8, ht8, hY8, hY9, hc8⟩
      have HRN : Hid (RpI w p m x S X (st.give s.ino) A8 n8 w8) := by
        refine ⟨⟨HR7.out.ch.1.trans hc8.1 (fun _ hj => .inl hj), HR7.out.ch.2⟩, ?_, ?_, Y8, ht8, by rw [hY8, HTY.out.2.1], ?_⟩
        · show BS w8 A8 n8 (Vl.giv st.T (st.bl s.ino))
          rw [HOW.out, ← HNDF.out.2.2.2]; exact hb8
        · show (Vl.giv st.T (st.bl s.ino)).length ≤ 96
          rw [HOW.out, ← HNDF.out.2.2.2]
          exact Vl.giv_len _ _ (fun z hz => by have := HNDF.out.2.2.1 z hz; omega) HR7.out.tl
        · show Y8.get = Vl.clr st.B (st.bl s.ino)
          rw [HOW.out, ← HNDF.out.2.2.2, hY9, HTY.out.2.2]
      clear hb8 ht8 hY8 hY9 hc8 HN7 HR7 HT7 HG7 HNDF HTY HR
      go_wp2
      go_roundw
      case rel => exact ⟨k + 1, A8, n8, c8, _, by omega, by go_num, rfl, HRN, HG2⟩
      case measure => simp [intOf]; omega
    · obtain rfl : k = n := by omega
      have HST : Hid (st = g) := by
        have := HG.out.go
        rw [← HLN.out, List.drop_length] at this
        exact this
      have HLY : Hid (res = Vl.ly (x.n - 35) (l.drop 0) st) := by rw [HST.out]; exact HSV.out
      have hk' := hn
      clear hk hlt HST HG HSV
      go_wp2_with fail
      go_loopw [41, 5] (fun i t wr => ∃ (j : Nat) (A' : Option Addr) (n' c' : Nat) (st : Vl.St), j ≤ k ∧ i = .int .i64 j ∧ t = .slice A' n' c' ∧ Hid (RpI w p m x S X st A' n' wr) ∧ Hid (res = Vl.ly (x.n - 35) (l.drop j) st)) (fun i _ _ => k - (intOf i).toNat)
      case atStart => exact ⟨0, A', n', c', st, by omega, rfl, rfl, HR, HLY⟩
      case round =>
        clear HR HLY
        obtain ⟨j, A', n', c', st, hj, rfl, rfl, HR, HLY⟩ := hrel
        by_cases hlt : j < k
        · have hsz := HR.out.ch.size
          obtain ⟨b, o, y, hl, rfl, hc, hbs, hcap⟩ := (HX.out.ch HR.out.ch).at hlt
          have HSO : Hid (Sl.okS l[j] = true ∧ Fits l[j]) := ⟨HM.out.ok _ (List.getElem_mem hl), Fits.of_ok (HM.out.ok _ (List.getElem_mem hl)) (HM.out.wide _ (List.getElem_mem hl))⟩
          have HL2 : Hid (res = if need l[j].dt.length ≤ (Bt.fr st.T (x.n - 35)).length then Vl.ly (x.n - 35) (l.drop (j + 1)) (st.lay (x.n - 35) l[j]) else none) := by
            show _ = _
            rw [HLY.out, List.drop_eq_getElem_cons hl]
            rfl
          generalize l[j] = s at *
          obtain ⟨Y, ht, hY1, hY2⟩ := HR.out.tq
          have HTY : Hid (Tq wr p m x S Y ∧ Y.l = X.l ∧ Y.get = st.B) := ⟨ht, hY1, hY2⟩
          have HBS := Lib.hid hbs
          have HCP := Lib.hid hcap
          have q0 : wr.cell? ⟨b, o + j * 9, none⟩ = some (.int .u32 (s.ino : Int)) := hc 0 _ rfl
          have q1 := hc 1 _ rfl
          have q2 := hc 2 _ rfl
          have q3 := hc 3 _ rfl
          have q4 := hc 4 _ rfl
          have q5 := hc 5 _ rfl
          have q6 := hc 6 _ rfl
          have q7 := hc 7 _ rfl
          have q8 := hc 8 _ rfl
          clear hc hbs ht hY1 hY2 hcap HLY
          go_upto_region 13 with (first
            | (refine wpList_alloc_any rfl 32 rfl _ zero_Sl ?_; intro w2 hb2 hs2 hw2)
            | (refine wpList_store_part rfl 32 (.tmp 11) (.tmp 44) rfl _ 0 (sc s (.slice y.a y.n y.c)) rfl rfl 32 (sc Sl.zero (.slice none 0 0)) hb2 size_Sl (by simp [sc]) (sc_row _ _ _ _) ?_
               intro w3 hb3 hs3 hk3))
          have HV3 : Hid (Bw w3 wr.heap.size (sc s (.slice y.a y.n y.c)) 32) := hb3
          have hbw : Below wr.heap.size wr w3 := hw2.trans (hk3.below2 (fun k hk => by omega))
          have HR3 := Lib.hid (HR.out.below hbw)
          have HB3 := Lib.hid (HBS.out.below hbw)
          have HT3 : Hid (Tq w3 p m x S Y ∧ Y.l = X.l ∧ Y.get = st.B) := ⟨HTY.out.1.below hbw, HTY.out.2⟩
          clear hb2 hs2 hw2 hb3 hs3 hk3 hbw q0 q1 q2 q3 q4 q5 q6 q7 q8 HR HTY HBS
          go_wp2_with (refine wpList_load_part rfl 32 (.tmp 11) rfl _ 0 rfl _ Tryz.underlying32 rfl (sc s (.slice y.a y.n y.c)) 32 _ HV3.out size_Sl (fun j u hu => by rw [Nat.zero_add]; exact hu) ?_)
          refine (store_any HT3.out.1 (fun k hk => HSN.out k (by have := HR3.out.ch.size; omega)) hN hN2 st.T A' n' c' HR3.out.bs HR3.out.tl s y.a y.n y.c HB3.out HCP.out HSO.out.1 HSO.out.2).mono ?_
          intro e w4 hq
          unfold StoQ at hq
          by_cases hroom : need s.dt.length ≤ (Bt.fr st.T (x.n - 35)).length
          · rw [if_pos hroom] at hq HL2
            obtain ⟨A4, n4, c4, Y4, rfl, hb4, ht4, h41, h42, hc4⟩ := hq
            have HRN : Hid (RpI w p m x S X (st.lay (x.n - 35) s) A4 n4 w4) := by
              refine ⟨⟨HR3.out.ch.1.trans hc4.1 (fun _ hj => .inl hj), HR3.out.ch.2⟩, hb4, ?_, Y4, ht4, by rw [h41, HT3.out.2.1], ?_⟩
              · show (Vl.tak st.T _).length ≤ 96
                refine Vl.tak_len _ _ (fun z hz => ?_) HR3.out.tl
                have := (Bt.fr_mem _ _ _).1 (List.mem_of_mem_take hz)
                omega
              · rw [h42, HT3.out.2.2]
                rfl
            clear hb4 ht4 h41 h42 hc4 hroom HR3 HT3 HB3 HV3
            go_wp2
            go_roundw
            case rel => exact ⟨j + 1, A4, n4, c4, _, by omega, by go_num, rfl, HRN, HL2⟩
            case measure => simp [intOf]; omega
          · rw [if_neg hroom] at hq HL2
            obtain ⟨rfl, hw4⟩ := hq
            have HW4 := Lib.hid hw4
            clear hw4 hroom
            go_wp2_with fail
            go_ret
            refine ⟨⟨Y, HT3.out.1.below HW4.out, HT3.out.2.1, fun st' e => by rw [HL2.out] at e; cases e⟩, HR3.out.ch.step HW4.out, ?_⟩
            rw [HL2.out]; rfl
        · obtain rfl : j = k := by omega
          have HRS : Hid (res = some st) := by
            have := HLY.out
            rw [← HLN.out, List.drop_length] at this
            exact this
          obtain ⟨Y, ht, hY1, hY2⟩ := HR.out.tq
          have HTY : Hid (Tq wr p m x S Y ∧ Y.l = X.l ∧ Y.get = st.B) := ⟨ht, hY1, hY2⟩
          clear ht hY1 hY2 hlt HLY
          go_wp2_with fail
          refine (get_ok HTY.out.1 9 (by omega)).mono ?_
          rintro e w2 ⟨A2, n2, c2, rfl, hb2, -, -, -, hw2, -⟩
          have HB2 := Lib.hid hb2
          have HR2 := Lib.hid (HR.out.below hw2)
          have HT2 := Lib.hid (HTY.out.1.below hw2)
          clear hb2 hw2 HR
          go_wp2_with fail
          refine (equal_any A' A2 n' n2 c' c2 _ _ w2 HR2.out.bs HB2.out).mono ?_
          rintro e w3 ⟨rfl, rfl⟩
          by_cases he : st.T = Y.get 9
          · have HD : Hid (decide (st.T = Y.get 9) = true) := by show _ = _; simpa using he
            rw [HD.out]
            go_wp2_with fail
            go_ret
            refine ⟨⟨Y, HT2.out, HTY.out.2.1, fun st' e => ?_⟩, HR2.out.ch, ?_⟩
            · rw [HRS.out] at e
              cases e
              refine ⟨?_, HR2.out.tl⟩
              rw [he, ← HTY.out.2.2]
              funext z
              unfold Vl.upd
              split
              · rename_i e; rw [e]
              · rfl
            · rw [HRS.out]; rfl
          · have HD : Hid (decide (st.T = Y.get 9) = false) := by show _ = _; simpa using he
            rw [HD.out]
            clear he
            go_wp2_with fail
            refine (putX_any HT2.out (fun k hk => HSN.out k (by have := HR2.out.ch.size; omega)) 9 (by omega) A' n' c' _ HR2.out.bs HR2.out.tl).mono ?_
            rintro e w4 ⟨rfl, ht4, hc4⟩
            have HT4 := Lib.hid ht4
            have HC4 := Lib.hid hc4
            clear ht4 hc4
            go_wp2
            go_ret
            refine ⟨⟨_, HT4.out, HTY.out.2.1, fun st' e => ?_⟩, HR2.out.ch.step' HC4.out, ?_⟩
            · rw [HRS.out] at e
              cases e
              exact ⟨by rw [TX.put_get, HTY.out.2.2], HR2.out.tl⟩
            · rw [HRS.out]; rfl
end
end Go.Proofs.YtnhokkdieijkhaaGreatDoor

namespace Go.Proofs.YtnhokkdieijkhaaGreatDoor
open Go.RowKit Go.Shelf
attribute [local go_sem] Oper.semAt_some
namespace Vl
theorem clr_small {B : Nat → List UInt8} (h : ∀ i, (B i).length ≤ 96) (l : List Nat) (i : Nat) : (clr B l i).length ≤ 96 := by
  rw [clr_at]
  split
  · simp
  · exact h i
theorem putD_small (s : List UInt8) : ∀ (l : List Nat) (k : Nat) (B : Nat → List UInt8), (∀ i, (B i).length ≤ 96) → ∀ i, (putD s l k B i).length ≤ 96
  | [], _, _, h, i => h i
  | b :: r, k, B, h, i => putD_small s r (k + 1) _ (fun j => by
      unfold upd
      split
      · rw [part_len]; omega
      · exact h j) i
theorem gv_small : ∀ (l : List Th) (st : St), (∀ i, (st.B i).length ≤ 96) → ∀ i, ((gv l st).B i).length ≤ 96
  | [], _, h, i => h i
  | s :: r, st, h, i => gv_small r (st.give s.ino) (fun j => clr_small h _ j) i
theorem ly_small (m : Nat) : ∀ (l : List Th) (st st' : St), ly m l st = some st' → (∀ i, (st.B i).length ≤ 96) → ∀ i, (st'.B i).length ≤ 96
  | [], st, st', e, h, i => by simp only [ly, Option.some.injEq] at e; subst e; exact h i
  | s :: r, st, st', e, h, i => by
    simp only [ly] at e
    split at e
    · refine ly_small m r (st.lay m s) st' e (fun j => ?_) i
      show (upd (putD s.dt (st.draw m s) 0 st.B) (11 + s.ino) (nd s (st.draw m s)).put j).length ≤ 96
      unfold upd
      split
      · exact Nat.le_trans (Nd.put_len _) (by omega)
      · exact putD_small _ _ _ _ h j
    · cases e
theorem gv_low : ∀ (l : List Th) (st : St) (j : Nat), j < 11 → (gv l st).B j = st.B j
  | [], _, _, _ => rfl
  | s :: r, st, j, hj => by
    show (gv r (st.give s.ino)).B j = _
    rw [gv_low r _ j hj]
    show clr st.B _ j = _
    rw [clr_at, if_neg]
    rintro ⟨b, _, e⟩
    omega
theorem ly_low (m : Nat) : ∀ (l : List Th) (st st' : St) (j : Nat), j < 11 → ly m l st = some st' → st'.B j = st.B j
  | [], st, st', _, _, e => by simp only [ly, Option.some.injEq] at e; rw [e]
  | s :: r, st, st', j, hj, e => by
    simp only [ly] at e
    split at e
    · rw [ly_low m r (st.lay m s) st' j hj e]
      show upd (putD s.dt (st.draw m s) 0 st.B) (11 + s.ino) (nd s (st.draw m s)).put j = _
      rw [upd_other _ _ (by omega), putD_other _ _ _ _ _ (fun b _ => by omega)]
    · cases e
theorem save_small {n : Nat} {l : List Th} {B : Nat → List UInt8} {S : Nat → Th} {bl : Nat → List Nat} {st : St} (e : save n l B S bl = some st) (h : ∀ i, (B i).length ≤ 96) (ht : st.T.length ≤ 96) : (∀ i, (upd st.B 9 st.T i).length ≤ 96) ∧ ∀ j, j < 9 ∨ j = 10 → upd st.B 9 st.T j = B j := by
  refine ⟨fun i => ?_, fun j hj => ?_⟩
  · unfold upd
    split
    · exact ht
    · exact ly_small _ _ _ _ e (gv_small _ _ h) i
  · rw [upd_other _ _ (by omega), ly_low _ _ _ _ j (by omega) e, gv_low _ _ _ (by omega)]
end Vl
/-- What Save hands back. -/
def SaveQ (w : World) (p m : Nat) (x : Sl) (S : Nat → Prop) (X : TX) (Sv : Nat → Vl.Th) (bl : Nat → List Nat) (l : List Vl.Th) (e : Ending) (w' : World) : Prop :=
  e = .returned (.int .i64 (Vl.svE Sl.dirB x.n l Sv)) ∧ Ch (· = p) w w' ∧
    ((Vl.svE Sl.dirB x.n l Sv ≠ 0 ∧ Tq w' p m x S X) ∨
      (Vl.svE Sl.dirB x.n l Sv = 0 ∧ ∃ m' X' st, Tq w' p m' x S X' ∧ w.heap.size ≤ m' ∧ X'.l = X.l ∧ Vl.save x.n l X.get Sv bl = some st ∧ X'.get = Vl.upd st.B 9 st.T ∧ Vl.Vol Sl.dirB x.n X'.get (Vl.setS l Sv) st.bl ∧ (∀ i, (X'.get i).length ≤ 96) ∧ ∀ j, j < 9 ∨ j = 10 → X'.get j = X.get j))
section
variable {w : World} {p m : Nat} {x : Sl} {S : Nat → Prop} {X : TX}
set_option maxRecDepth 100000 in
set_option maxHeartbeats 2000000 in
theorem save_any (h : Tq w p m x S X) (hS : ∀ k, w.heap.size ≤ k → S k) (hN : 36 ≤ x.n) (hN2 : x.n ≤ 803) (hs : ∀ i, (X.get i).length ≤ 96) (Sv : Nat → Vl.Th) (bl : Nat → List Nat) (hv : Vl.Vol Sl.dirB x.n X.get Sv bl)
    (A : Option Addr) (n c : Nat) (l : List Vl.Th) (hl : SS w A n l) (hf : ∀ s ∈ l, Fits s ∧ s.dt.length ≤ 1000) (hn : n ≤ 1000000) :
    Calls Tryz.prog 13 #[.pointer (some ⟨p, 0, none⟩), .slice A n c] w (SaveQ w p m x S X Sv bl l) := by
  have HT := Lib.hid h
  have HSN := Lib.hid hS
  have HX := Lib.hid hl
  have HSM := Lib.hid hs
  have HV := Lib.hid hv
  have HF := Lib.hid hf
  clear h hS hs hv hl hf
  have HI := Lib.hid (isVol_any HT.out hN hN2)
  go_enter Tryz.func13, Tryz.ntmps13
  go_wp2_with fail
  refine HI.out.mono ?_
  rintro e w' ⟨rfl, e'⟩
  rw [e']
  clear e' w' HI
  go_wp2_with fail
  refine (canBe_any A n c l _ HX.out HF.out hn).mono ?_
  rintro e w1 ⟨rfl, hw1⟩
  have HW1 := Lib.hid hw1
  clear hw1
  have HW : Hid (∀ s ∈ l, s.Wide) := fun s hs => (HF.out s hs).1.wide
  cases hmay : Vl.mayB Sl.dirB l with
  | false =>
    have HE : Hid (Vl.svE Sl.dirB x.n l Sv = 1) := by show _ = _; unfold Vl.svE; rw [if_neg (by rw [hmay]; simp)]
    clear hmay
    go_wp2_with fail
    go_ret
    unfold SaveQ
    rw [HE.out]
    exact ⟨rfl, ⟨Fr.of_below HW1.out, fun k hk => by rw [hk]; exact HT.out.dull⟩, .inl ⟨by omega, HT.out.below HW1.out⟩⟩
  | true =>
    have HMY : Hid (Vl.May Sl.dirB l) := (Vl.mayB_iff HW.out).1 hmay
    have HE : Hid (Vl.svE Sl.dirB x.n l Sv = if Vl.tot (Vl.setS l Sv) ≤ x.n - 35 then 0 else 66) := by show _ = _; unfold Vl.svE; rw [if_pos hmay]
    have HSAVE := Lib.hid (HV.out.save HMY.out)
    clear hmay
    go_wp2_with fail
    refine (fork_any (HT.out.below HW1.out) (fun k hk => HSN.out k (by have := HW1.out.size; omega))).mono ?_
    rintro e w2 ⟨q, mq, rfl, hq, hw2, hq1, hq2⟩
    have HQ := Lib.hid hq
    have HW2 := Lib.hid (HW1.out.trans (hw2.mono HW1.out.size))
    have hqw : w.heap.size ≤ q := by have := HW1.out.size; omega
    have hmw : w.heap.size ≤ mq := by have := HW1.out.size; omega
    clear hq hw2 hq1 hq2
    go_wp2_with fail
    refine (replace_any HQ.out (fun k hk => HSN.out k (by have := HW2.out.size; omega)) hN hN2 HSM.out Sv bl HV.out A n c l (HX.out.below HW2.out) HMY.out hn).mono ?_
    intro e w3 hr
    obtain ⟨⟨Y, ht3, hY1, hY2⟩, hc3, rfl⟩ := hr
    have hp := HT.out.plt
    have hm := HT.out.mlt
    have HT3 : Hid (Tq w3 p m x S X) := (HT.out.below HW2.out).ch hc3 (by omega) (by omega)
    have HW3 : Hid (Below w.heap.size w w3) := HW2.out.trans (hc3.below (B := w.heap.size) (by exact HW2.out.size) (fun k hk => by rw [hk]; exact hmw))
    have HQ3 : Hid (Tq w3 q mq x S Y) := ht3
    have HY : Hid (Y.l = X.l) := hY1
    cases hres : Vl.save x.n l X.get Sv bl with
    | none =>
      have HE2 : Hid (Vl.svE Sl.dirB x.n l Sv = 66) := by
        show _ = _
        rw [HE.out, if_neg]
        intro hle
        obtain ⟨st, hst⟩ := HSAVE.out.1.2 hle
        rw [hres] at hst
        cases hst
      clear hres ht3 hc3 hY1 hY2
      go_wp2_with fail
      go_ret
      unfold SaveQ
      rw [HE2.out]
      exact ⟨rfl, ⟨Fr.of_below HW3.out, fun k hk => by rw [hk]; exact HT.out.dull⟩, .inl ⟨by omega, HT3.out⟩⟩
    | some st =>
      have HE2 : Hid (Vl.svE Sl.dirB x.n l Sv = 0) := by
        show _ = _
        rw [HE.out, if_pos (HSAVE.out.1.1 ⟨st, hres⟩)]
      have HRS := Lib.hid hres
      have HV2 := Lib.hid (HSAVE.out.2 st hres)
      have HG := Lib.hid (hY2 st hres)
      have HSS := Lib.hid (Vl.save_small hres HSM.out (hY2 st hres).2)
      clear hres ht3 hc3 hY1 hY2
      go_wp2_with fail
      refine (ttake_any HT3.out HQ3.out rfl (fun k hk => HSN.out k (by have := HW3.out.size; omega))).mono ?_
      rintro e w4 ⟨rfl, m', ht4, hc4, hm4⟩
      have HT4 := Lib.hid ht4
      have HC4 := Lib.hid hc4
      have HM4 : Hid (w.heap.size ≤ m') := by have := HW3.out.size; show _ ≤ _; omega
      have HTG : Hid ((X.take Y).get = Vl.upd st.B 9 st.T) := by
        show _ = _
        rw [← HG.out.1]
        funext i
        unfold TX.get TX.take TX.was
        rw [HY.out]
      clear ht4 hc4 hm4
      go_wp2
      go_ret
      unfold SaveQ
      rw [HE2.out]
      refine ⟨rfl, ⟨(Fr.of_below HW3.out (S := fun j => j = p)).trans HC4.out.1 (fun j hj => .inl hj), fun k hk => by rw [hk]; exact HT.out.dull⟩, .inr ⟨rfl, m', X.take Y, st, HT4.out, HM4.out, rfl, HRS.out, HTG.out, ?_, ?_, ?_⟩⟩
      · rw [HTG.out, ← HV2.out.2]; exact HV2.out.1
      · rw [HTG.out]; exact HSS.out.1
      · rw [HTG.out]; exact HSS.out.2
set_option maxHeartbeats 400000 in
theorem save_nil (A : Option Addr) (n c : Nat) (w : World) : Calls Tryz.prog 13 #[.pointer none, .slice A n c] w fun e w' => e = .returned (.int .i64 1) ∧ w' = w := by
  have HI := Lib.hid (isVol_nil w)
  go_enter Tryz.func13, Tryz.ntmps13
  go_wp2_with fail
  refine HI.out.mono ?_
  rintro e w' ⟨rfl, rfl⟩
  go_wp2
  go_ret
  exact ⟨rfl, rfl⟩
end
end Go.Proofs.YtnhokkdieijkhaaGreatDoor
