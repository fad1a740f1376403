/-
  The walk of DiskReads.
-/
import Derived.Test.YthokobooekmegaaDSeq
import Derived.IntWalk
namespace Go.Proofs.Ythokobooekmegaa
open Go.RowKit

/-- Four texts. -/
def lcI (f : Nat → List UInt8) : Array Value := #[.string (txt (f 0)), .string (txt (f 1)), .string (txt (f 2)), .string (txt (f 3))]
theorem lcI_get (f : Nat → List UInt8) {j : Nat} (h : j < 4) : (lcI f)[j]? = some (.string (txt (f j))) := by
  match j, h with
  | 0, _ => rfl
  | 1, _ => rfl
  | 2, _ => rfl
  | 3, _ => rfl
theorem lcI_set (f : Nat → List UInt8) {k : Nat} (h : k < 4) (b : List UInt8) : (lcI f).setIfInBounds k (.string (txt b)) = lcI (fun j => if j = k then b else f j) := by
  match k, h with
  | 0, _ => rfl
  | 1, _ => rfl
  | 2, _ => rfl
  | 3, _ => rfl
theorem lcI_congr {f g : Nat → List UInt8} (h : ∀ j, f j = g j) : lcI f = lcI g := by rw [show f = g from funext h]
theorem info_str : (Try.prog.info? 9).map (fun i => (i.zero, i.size, i.bytes)) = some (some (.string (txt [])), 1, 16) := by kernel_rfl
/-- make([]string, 4), the world under a name of its own. -/
theorem wpList_make_texts {o : Oper} {a : Act} {w : World} {ops : Array Oper} {rest : List Oper} {Q : Exit → Act → World → Prop} (hgd : o.guard = none) (l c : Operand) (ho : o.op = .makeSlice 28 l c) (hl : a.eval l = .int .i64 4) (hc : a.eval c = .int .i64 4)
    (h : ∀ w', w'.heap[w.heap.size]? = some (.cells (lcI fun _ => []) 9 (0, 0)) → w'.heap.size = w.heap.size + 1 → Below w.heap.size w w' → wpList Try.prog ops Q rest (a.put o.dst (.slice (some ⟨w.heap.size, 0, none⟩) 4 4)) w') : wpList Try.prog ops Q (o :: rest) a w := by
  obtain ⟨i, hi, hz, hs, hb⟩ := info_parts info_str
  have hr := run_makeSlice (P := Try.prog) w 28 9 i _ Try.underlying28 hi hz .i64 .i64 4 4 (by omega) (by omega) (by rw [hs]; simp) (by rw [hb]; omega) (by omega)
  rw [hs] at hr
  have e : madeCells (Value.string (txt [])).cells ((4 : Int).toNat * 1) = lcI fun _ => [] := by kernel_rfl
  rw [e] at hr
  refine Did.list hgd (v := .slice (some ⟨w.heap.size, 0, none⟩) 4 4) (w' := w.alloc (.cells (lcI fun _ => []) 9)) (.inl ?_) (h _ (heap_alloc_new w _) (by simp) ((Below.refl _ _).alloc (Nat.le_refl _) _))
  unfold execOp
  simp only [ho, hl, hc, Sem.run_bind, hr, Result.andThen_ok]
  rfl
theorem wpStill_didG {P : Program} {ops : Array Oper} {w : World} {Q : Act → Prop} {o : Oper} {rest : List Oper} {a : Act} {v : Value} (hw : Region.wanted o (yielded ops a.tmps) = true) (h : Did P o a w v w) (hK : wpStill P ops w Q rest (a.put o.dst v)) : wpStill P ops w Q (o :: rest) a := by
  unfold wpStill
  rw [if_pos hw]
  unfold Oper.still
  rcases h with h | ⟨h, rfl⟩
  · rw [h]; exact ⟨rfl, hK⟩
  · rw [h]; exact ⟨rfl, hK⟩
theorem did_text {o : Oper} {a : Act} {w : World} (x : Operand) (ho : o.op = .convert 34 9 x) (A : Option Addr) (n c : Nat) (l : List UInt8) (hx : a.eval x = .slice A n c) (h : BS w A n l) : Did Try.prog o a w (.string (txt l)) w := by
  left
  unfold execOp
  simp only [ho, hx, Sem.run_bind, run_convert_bs w A n c l h, Result.andThen_ok]
  rfl
theorem flushed_read (s : DS) (i : Int) : s.flushed.read i = s.read i := rfl
theorem push_read (s : DS) (k : Int) (b : List UInt8) (i : Int) : (s.push k b).read i = if k = i then b else s.read i := by
  show rd (s.pend ++ [(k, b)]) i (s.F i) = _
  rw [rd_snoc]
  rfl
theorem and_three_u8 : ∀ x : Fin 256, Go.bits BinOp.and IntKind.u8 (x.1 : Int) 3 = ((x.1 % 4 : Nat) : Int) := by decide +kernel

/-- A store into the block of texts. -/
theorem texts_set {w : World} {gl : Nat} {f : Nat → List UInt8} (h : w.heap[gl]? = some (.cells (lcI f) 9 (0, 0))) {k : Nat} (hk : k < 4) (b : List UInt8) :
    (w.setCell ⟨gl, k, none⟩ (.string (txt b))).heap[gl]? = some (.cells (lcI fun j => if j = k then b else f j) 9 (0, 0)) ∧ Fr (fun j => j = gl) w (w.setCell ⟨gl, k, none⟩ (.string (txt b))) ∧
      w.cell? ⟨gl, k, none⟩ = some (.string (txt (f k))) ∧ w.frozen? ⟨gl, k, none⟩ = false := by
  refine ⟨?_, Keep.setCell (Fr.refl (fun j => j = gl) w) (p := ⟨gl, k, none⟩) (fun h => h.2 rfl) _, ?_, by simp [World.frozen?, h]⟩
  · rw [setCell_eq_setRow _ _ _ _ _ _ _ h, setRow_heap _ _ _ _ _ _ h, lcI_set f hk]
  · rw [cell_of_row _ _ _ _ _ _ h, lcI_get f hk]

/-- What DiskReads knows behind i writes. -/
def RdI (w : World) (p gl i : Nat) (wr : World) : Prop :=
  ∃ S s, Dk wr p S s ∧ s.n = 4 ∧ s.left = -1 ∧ s.down = false ∧ s.pend.length ≤ i ∧ wr.heap[gl]? = some (.cells (lcI fun j => s.read (j : Int)) 9 (0, 0)) ∧ ¬ S gl ∧ ∀ j, S j → w.heap.size ≤ j

set_option maxRecDepth 100000 in
set_option maxHeartbeats 2000000 in
theorem reads_walk (A : Option Addr) (n ca : Nat) (WR : List UInt8) (B : Option Addr) (m cb : Nat) (FLs : List UInt8) (w : World) (hWR : BS w A n WR) (hFL : BS w B m FLs) (hn : n ≤ maxLen) (hm : m ≤ maxLen) :
    Calls Try.prog 7 #[.slice A n ca, .slice B m cb] w fun e w' => e = .returned (.bool true) ∧ Below w.heap.size w w' := by
  unfold maxLen at hn hm
  have HWR := Lib.hid hWR
  have HFL := Lib.hid hFL
  clear hWR hFL
  by_cases hout : 40 < n ∨ m < n
  · by_cases h40 : 40 < n
    · clear hout
      go_enter Try.func7, Try.ntmps7
      go_wp2_with fail
      refine (awake_any w).mono ?_
      rintro e w1 ⟨rfl, hw1⟩
      have HW1 := Lib.hid hw1
      clear hw1
      go_wp2
      go_ret
      exact ⟨rfl, HW1.out⟩
    · have hmn : m < n := by omega
      clear hout
      go_enter Try.func7, Try.ntmps7
      go_wp2_with fail
      refine (awake_any w).mono ?_
      rintro e w1 ⟨rfl, hw1⟩
      have HW1 := Lib.hid hw1
      clear hw1
      go_wp2
      go_ret
      exact ⟨rfl, HW1.out⟩
  · have h40 : ¬ 40 < n := by omega
    have hmn : ¬ m < n := by omega
    clear hout
    go_enter Try.func7, Try.ntmps7
    go_wp2_with fail
    refine (awake_any w).mono ?_
    rintro e w1 ⟨rfl, hw1⟩
    have HW1 := Lib.hid hw1
    clear hw1
    go_wp2_with fail
    refine (new_any 4 w1 (by omega) (by omega)).mono ?_
    rintro e w2 ⟨p, S, rfl, hd, hb, hS⟩
    have HD := Lib.hid hd
    have HB : Hid (Below w.heap.size w w2) := HW1.out.trans (hb.mono HW1.out.size)
    have HS : Hid (∀ k, S k → w.heap.size ≤ k) := fun k hk => Nat.le_trans HW1.out.size (hS k hk)
    clear hd hb hS
    go_wp2_with (refine wpList_make_texts rfl (.const (.int .i64 4)) (.const (.int .i64 4)) rfl rfl rfl ?_; intro w3 hb3 hs3 hw3; have HB3 := Lib.hid hb3; have HW3 := Lib.hid hw3; clear hb3 hs3 hw3)
    have HB4 : Hid (Below w.heap.size w w3) := HB.out.trans (HW3.out.mono HB.out.size)
    have HBsz : Hid (w.heap.size ≤ w2.heap.size) := HB.out.size
    have HGS : Hid (∀ k, S k → k < w2.heap.size) := HD.out.2.1
    go_loopw [9] (fun i wr => ∃ k : Nat, k ≤ 4 ∧ i = .int .i64 k ∧ Hid (wr.heap[w2.heap.size]? = some (.cells (lcI fun j => if j < k then zs else []) 9 (0, 0))) ∧ Hid (Dk wr p S (DS.new 4)) ∧ Hid (Below w.heap.size w wr)) (fun i _ => 4 - (intOf i).toNat)
    case atStart => exact ⟨0, by omega, rfl, HB3, HD.out.below HW3.out, HB4⟩
    case round =>
      clear HD HB3 HB4 HB
      obtain ⟨k, hk, rfl, HG, HDK, HBK⟩ := hrel
      by_cases hlt : k < 4
      · go_wp2_with fail
        refine (full_any _ 0 0 [] false _ BS.nil (by unfold maxLen; omega)).mono ?_
        rintro e w4 ⟨rfl, hb4, hw4⟩
        have hgl : w2.heap.size < wr.heap.size := (Array.getElem?_eq_some_iff.1 HG.out).1
        obtain ⟨hs1, hs2, hs3, hs4⟩ := texts_set ((hw4.block _ hgl).trans HG.out) hlt (fl [])
        have HS1 := Lib.hid hs1
        have HS2 := Lib.hid hs2
        have HW4 := Lib.hid hw4
        have v := run_convert_bs w4 (some ⟨wr.heap.size, 0, none⟩) 128 128 (fl []) (block_BS hb4 (fl_len _))
        clear hs1 hs2 hb4 hw4
        go_wp2
        go_roundw
        case rel =>
          refine ⟨k + 1, by omega, by go_num, ?_, ?_, ?_⟩
          · show _ = _
            rw [HS1.out, lcI_congr (g := fun j => if j < k + 1 then zs else [])]
            intro j
            by_cases e : j = k
            · subst e; rw [if_pos rfl, if_pos (by omega)]; simp [fl, zs]
            · rw [if_neg e]
              by_cases h : j < k
              · rw [if_pos h, if_pos (by omega)]
              · rw [if_neg h, if_neg (by omega)]
          · exact (HDK.out.below HW4.out).keep HS2.out (fun j hj e => by have := HGS.out j hj; omega)
          · exact (HBK.out.trans (HW4.out.mono HBK.out.size)).trans (HS2.out.below (Nat.le_trans HBK.out.size HW4.out.size) (fun j hj => by rw [hj]; exact HBsz.out))
        case measure => simp [intOf]; omega
      · obtain rfl : k = 4 := by omega
        have HI0 : Hid (RdI w p w2.heap.size 0 wr) := ⟨S, DS.new 4, HDK.out, rfl, rfl, rfl, Nat.le_refl _, HG.out, fun h => by have := HGS.out _ h; omega, HS.out⟩
        clear HG HDK hlt HS HGS HW3 HW1
        go_wp2_with fail
        go_loopw [10] (fun i wr => ∃ a : Nat, a ≤ n ∧ i = .int .i64 a ∧ Hid (RdI w p w2.heap.size a wr) ∧ Hid (Below w.heap.size w wr)) (fun i _ => n - (intOf i).toNat)
        case atStart => exact ⟨0, by omega, rfl, HI0, HBK⟩
        case round =>
          clear HI0 HBK
          obtain ⟨a, ha, rfl, HIA, HBA⟩ := hrel
          by_cases han : a < n
          · obtain ⟨S, s, hd, hsn, hsl, hsd, hsp, hgl, hSg, hS⟩ := HIA.out
            have HD := Lib.hid hd
            have HSN := Lib.hid hsn
            have HSL := Lib.hid hsl
            have HSD := Lib.hid hsd
            have HPL : Hid (s.pend.length ≤ 1000000) := by show _ ≤ _; omega
            have HSP := Lib.hid hsp
            have HGL := Lib.hid hgl
            have HSG := Lib.hid hSg
            have HS := Lib.hid hS
            clear hd hsn hsl hsd hsp hgl hSg hS HIA
            obtain ⟨b, o, rfl, hjl, hcell⟩ := (HWR.out.below HBA.out).at han
            obtain ⟨x, hx⟩ : ∃ x : Nat, WR[a].toNat = x := ⟨_, rfl⟩
            have hx255 : x ≤ 255 := by have := WR[a].toNat_lt; omega
            have HBT : Hid (#[Value.int .u8 (x : Int), Value.int .u8 (a : Int), Value.int .u8 7] = (bc [WR[a], UInt8.ofNat a, 7]).toArray) := by show _ = _; simp only [bc, List.map_cons, List.map_nil]; rw [byte_nat (by omega), hx]; rfl
            rw [hx] at hcell
            obtain ⟨y, hy4, hand⟩ : ∃ y : Nat, y < 4 ∧ Go.bits BinOp.and IntKind.u8 (x : Int) 3 = (y : Int) := ⟨x % 4, by omega, and_three_u8 ⟨x, by omega⟩⟩
            clear hx
            go_wp2_with fail
            refine (full_any _ 3 _ [WR[a], UInt8.ofNat a, 7] false _ (BS.built' wr _ _ 3 5 HBT.out rfl) (by unfold maxLen; omega)).mono ?_
            rintro e w4 ⟨rfl, hb4, hw4⟩
            have HW4 : Hid (Below wr.heap.size wr w4) := ((Below.refl _ wr).alloc (Nat.le_refl _) _).trans (hw4.mono (by simp))
            have HB4 := Lib.hid hb4
            clear hb4 hw4 HBT
            simp only [World.size_alloc] at HB4 ⊢
            have HBL : Hid ((fl [WR[a], UInt8.ofNat a, 7]).length = 128) := fl_len _
            generalize fl [WR[a], UInt8.ofNat a, 7] = bb at *
            have HGL4 : Hid (w4.heap[w2.heap.size]? = some (.cells (lcI fun j => s.read (j : Int)) 9 (0, 0))) := (HW4.out.block _ (Array.getElem?_eq_some_iff.1 HGL.out).1).trans HGL.out
            have HGLT : Hid (w2.heap.size < w4.heap.size) := (Array.getElem?_eq_some_iff.1 HGL4.out).1
            have HG4 : Hid (wr.heap.size + 1 < w4.heap.size) := (Array.getElem?_eq_some_iff.1 HB4.out).1
            have HNS4 : Hid (¬ S (wr.heap.size + 1)) := fun h => by have := HD.out.2.1 _ h; omega
            go_wp2_with fail
            clear hand
            refine (write_up p S s (y : Int) _ 128 bb w4 (HD.out.below HW4.out) HPL.out (refus_ok HSD.out (Int.natCast_nonneg y) (by rw [HSN.out]; exact Int.ofNat_lt.2 hy4)) (block_BS HB4.out HBL.out) (not_S HD.out.2.1 (Nat.le_succ _)) (DS.count_down HSL.out HSD.out)).mono ?_
            rw [DS.count_left HSL.out]
            rintro e w5 ⟨rfl, S5, hd5, hf5, hS5⟩
            have HD5 := Lib.hid hd5
            have HB5 : Hid (Below w.heap.size w w5) := (HBA.out.trans (HW4.out.mono HBA.out.size)).trans (hf5.below (Nat.le_trans HBA.out.size HW4.out.size) HS.out)
            have HS5 : Hid (∀ j, S5 j → w.heap.size ≤ j) := fun j hj => by
              rcases hS5 j hj with h | h
              · exact HS.out j h
              · have := HBA.out.size; have := HW4.out.size; omega
            have HGL5 : Hid (w5.heap[w2.heap.size]? = some (.cells (lcI fun j => s.read (j : Int)) 9 (0, 0))) := (hf5.block _ ⟨HGLT.out, HSG.out⟩).trans HGL4.out
            have HBB5 : Hid (w5.heap[wr.heap.size + 1]? = some (.cells (bc bb).toArray 5 (0, 0))) := (hf5.block _ ⟨HG4.out, HNS4.out⟩).trans HB4.out
            have HSG5 : Hid (¬ S5 w2.heap.size) := fun h => by rcases hS5 _ h with h | h; exact HSG.out h; have := HGLT.out; omega
            have HSB5 : Hid (¬ S5 (wr.heap.size + 1)) := fun h => by rcases hS5 _ h with h | h; exact HNS4.out h; have := HG4.out; omega
            have HRS : Hid (∀ i, (s.push (y : Int) bb).read i = if (y : Int) = i then bb else s.read i) := fun i => push_read s _ _ i
            have HP5 : Hid ((s.push (y : Int) bb).pend.length ≤ a + 1) := by show (s.pend ++ [_]).length ≤ _; have := HSP.out; simp; omega
            have HPL5 : Hid ((s.push (y : Int) bb).pend.length ≤ 1000000) := by have := HP5.out; show _ ≤ _; omega
            have HSN5 : Hid ((s.push (y : Int) bb).n = 4) := HSN.out
            have HSL5 : Hid ((s.push (y : Int) bb).left = -1) := HSL.out
            have HSD5 : Hid ((s.push (y : Int) bb).down = false) := HSD.out
            clear hd5 hf5 hS5
            generalize s.push (y : Int) bb = s5 at *
            obtain ⟨b2, o2, rfl, hjl2, hcell2⟩ := (HFL.out.below HB5.out).at (show a < m by omega)
            obtain ⟨x2, hx2⟩ : ∃ x : Nat, FLs[a].toNat = x := ⟨_, rfl⟩
            rw [hx2] at hcell2
            clear hx2
            -- THE TAIL OF A ROUND
            have tail : ∀ (w6 : World) (s6 : DS), Dk w6 p S5 s6 → Fr S5 w5 w6 → s6.n = 4 → s6.left = -1 → s6.down = false → s6.pend.length ≤ a + 1 → (∀ i, s6.read i = if (y : Int) = i then bb else s.read i) →
                BS w6 (some ⟨wr.heap.size + 1, 0, none⟩) 128 bb ∧ w6.heap[w2.heap.size]? = some (.cells (lcI fun j => s.read (j : Int)) 9 (0, 0)) ∧ Below w.heap.size w w6 ∧
                RdI w p w2.heap.size (a + 1) (w6.setCell ⟨w2.heap.size, y, none⟩ (.string (txt bb))) ∧ Below w.heap.size w (w6.setCell ⟨w2.heap.size, y, none⟩ (.string (txt bb))) := by
              intro w6 s6 hd6 hf6 h1 h2 h3 h4 h5
              have hb6 : w6.heap[wr.heap.size + 1]? = some (.cells (bc bb).toArray 5 (0, 0)) := (hf6.block _ ⟨(Array.getElem?_eq_some_iff.1 HBB5.out).1, HSB5.out⟩).trans HBB5.out
              have hg6 : w6.heap[w2.heap.size]? = some (.cells (lcI fun j => s.read (j : Int)) 9 (0, 0)) := (hf6.block _ ⟨(Array.getElem?_eq_some_iff.1 HGL5.out).1, HSG5.out⟩).trans HGL5.out
              have hbw : Below w.heap.size w w6 := HB5.out.trans (hf6.below HB5.out.size HS5.out)
              obtain ⟨t1, t2, t3, t4⟩ := texts_set hg6 hy4 bb
              refine ⟨block_BS hb6 HBL.out, hg6, hbw, ⟨S5, s6, hd6.keep t2 (fun j hj e => HSG5.out (e ▸ hj)), h1, h2, h3, h4, ?_, HSG5.out, HS5.out⟩, hbw.trans (t2.below hbw.size (fun j hj => by rw [hj]; exact HBsz.out))⟩
              rw [t1, lcI_congr (g := fun j => s6.read (j : Int))]
              intro j
              rw [h5]
              by_cases e : j = y
              · rw [if_pos e, if_pos (by omega)]
              · rw [if_neg e, if_neg (by omega)]
            have HT := Lib.hid tail
            clear tail
            cases hfb : (Go.bits BinOp.and IntKind.u8 (x2 : Int) 1 == 1)
            · obtain ⟨hbs, hg6, hbw, hri, hb7⟩ := HT.out w5 s5 HD5.out (Fr.refl _ _) HSN5.out HSL5.out HSD5.out HP5.out HRS.out
              obtain ⟨_, _, t3, t4⟩ := texts_set hg6 hy4 bb
              have v := run_convert_bs w5 (some ⟨wr.heap.size + 1, 0, none⟩) 128 128 bb hbs
              have HRI := Lib.hid hri
              have HB7 := Lib.hid hb7
              clear hbs hg6 hbw hri hb7
              go_wp2_with fail
              clear v t3 t4
              go_loopw [13] (fun i wr => ∃ t : Nat, t ≤ 4 ∧ i = .int .i64 t ∧ Hid (RdI w p w2.heap.size (a + 1) wr) ∧ Hid (Below w.heap.size w wr)) (fun i _ => 4 - (intOf i).toNat)
              case atStart => exact ⟨0, by omega, rfl, HRI, HB7⟩
              case round =>
                clear HRI HB7
                obtain ⟨t, ht, rfl, HRI, HB7⟩ := hrel
                by_cases ht4 : t < 4
                · obtain ⟨S7, s7, hd7, h71, h72, h73, h74, h75, h76, h77⟩ := HRI.out
                  have HD7 := Lib.hid hd7
                  have H75 := Lib.hid h75
                  have HR7 : Hid (refus s7 (t : Int) = 0) := refus_ok h73 (Int.natCast_nonneg t) (by rw [h71]; exact Int.ofNat_lt.2 ht4)
                  have HP7 : Hid (s7.pend.length ≤ 1000000) := by show _ ≤ _; omega
                  have HLR : Hid ((s7.read (t : Int)).length = 128) := rd_len _ hd7.1.1 _ _ (hd7.1.2.1 _)
                  have HRN : Hid (∀ w', Below wr.heap.size wr w' → RdI w p w2.heap.size (a + 1) w') := fun w' hb => ⟨S7, s7, hd7.below hb, h71, h72, h73, h74, (hb.block _ (Array.getElem?_eq_some_iff.1 h75).1).trans h75, h76, h77⟩
                  clear hd7 h71 h72 h73 h74 h75 h76 h77
                  go_wp2_with fail
                  refine (read_any p S7 s7 (t : Int) wr HD7.out HP7.out HR7.out).mono ?_
                  rintro e w8 ⟨g8, rfl, hb8, hg8, hw8⟩
                  have HR8 : Hid (RdI w p w2.heap.size (a + 1) w8.drew) := HRN.out _ hw8.drew
                  have HB8 : Hid (Below w.heap.size w w8.drew) := (HB7.out.trans (hw8.mono HB7.out.size)).drew
                  have HBS8 : Hid (BS w8.drew (some ⟨g8, 0, none⟩) 128 (s7.read (t : Int))) := block_BS hb8 HLR.out
                  have hc8 : w8.cell? ⟨w2.heap.size, t, none⟩ = some (.string (txt (s7.read (t : Int)))) := by
                    rw [cell_of_row _ _ _ _ _ _ ((hw8.block _ (Array.getElem?_eq_some_iff.1 H75.out).1).trans H75.out), lcI_get _ ht4]
                  clear hb8 hw8
                  go_wp2_with fail
                  refine wp_region_still_lit (by kernel_rfl) (by kernel_rfl) ?_
                  change wpStill _ _ (World.drew _) _ _ _
                  iterate 4 still_step
                  refine wpStill_didG (by kernel_rfl) (did_text (.tmp 101) rfl (some ⟨g8, 0, none⟩) 128 128 (s7.read (t : Int)) rfl HBS8.out) ?_
                  iterate 6 still_step
                  refine wpStill_nil ?_
                  change Exit.then _ _ _ _ (World.drew _)
                  go_wp2
                  go_roundw
                  case rel => exact ⟨t + 1, by omega, by go_num, HR8, HB8⟩
                  case measure => simp [intOf]; omega
                · go_wp2
                  go_roundw
                  case rel =>
                    repeat apply Exists.intro
                    refine ⟨?_, rfl⟩
                    exact ⟨a + 1, by omega, by go_num, HRI, HB7⟩
                  case measure => simp [intOf]; omega
            · go_wp2_with fail
              refine (flush_up p S5 s5 w5 HD5.out HPL5.out HSD5.out (DS.count_down HSL5.out HSD5.out)).mono ?_
              rw [DS.count_left HSL5.out]
              rintro e w6 ⟨rfl, hd6, hf6⟩
              obtain ⟨hbs, hg6, hbw, hri, hb7⟩ := HT.out w6 s5.flushed hd6 hf6 HSN5.out HSL5.out HSD5.out (Nat.zero_le _) HRS.out
              obtain ⟨_, _, t3, t4⟩ := texts_set hg6 hy4 bb
              have v := run_convert_bs w6 (some ⟨wr.heap.size + 1, 0, none⟩) 128 128 bb hbs
              have HRI := Lib.hid hri
              have HB7 := Lib.hid hb7
              clear hbs hg6 hbw hri hb7 hd6 hf6
              go_wp2_with fail
              clear v t3 t4
              go_loopw [13] (fun i wr => ∃ t : Nat, t ≤ 4 ∧ i = .int .i64 t ∧ Hid (RdI w p w2.heap.size (a + 1) wr) ∧ Hid (Below w.heap.size w wr)) (fun i _ => 4 - (intOf i).toNat)
              case atStart => exact ⟨0, by omega, rfl, HRI, HB7⟩
              case round =>
                clear HRI HB7
                obtain ⟨t, ht, rfl, HRI, HB7⟩ := hrel
                by_cases ht4 : t < 4
                · obtain ⟨S7, s7, hd7, h71, h72, h73, h74, h75, h76, h77⟩ := HRI.out
                  have HD7 := Lib.hid hd7
                  have H75 := Lib.hid h75
                  have HR7 : Hid (refus s7 (t : Int) = 0) := refus_ok h73 (Int.natCast_nonneg t) (by rw [h71]; exact Int.ofNat_lt.2 ht4)
                  have HP7 : Hid (s7.pend.length ≤ 1000000) := by show _ ≤ _; omega
                  have HLR : Hid ((s7.read (t : Int)).length = 128) := rd_len _ hd7.1.1 _ _ (hd7.1.2.1 _)
                  have HRN : Hid (∀ w', Below wr.heap.size wr w' → RdI w p w2.heap.size (a + 1) w') := fun w' hb => ⟨S7, s7, hd7.below hb, h71, h72, h73, h74, (hb.block _ (Array.getElem?_eq_some_iff.1 h75).1).trans h75, h76, h77⟩
                  clear hd7 h71 h72 h73 h74 h75 h76 h77
                  go_wp2_with fail
                  refine (read_any p S7 s7 (t : Int) wr HD7.out HP7.out HR7.out).mono ?_
                  rintro e w8 ⟨g8, rfl, hb8, hg8, hw8⟩
                  have HR8 : Hid (RdI w p w2.heap.size (a + 1) w8.drew) := HRN.out _ hw8.drew
                  have HB8 : Hid (Below w.heap.size w w8.drew) := (HB7.out.trans (hw8.mono HB7.out.size)).drew
                  have HBS8 : Hid (BS w8.drew (some ⟨g8, 0, none⟩) 128 (s7.read (t : Int))) := block_BS hb8 HLR.out
                  have hc8 : w8.cell? ⟨w2.heap.size, t, none⟩ = some (.string (txt (s7.read (t : Int)))) := by
                    rw [cell_of_row _ _ _ _ _ _ ((hw8.block _ (Array.getElem?_eq_some_iff.1 H75.out).1).trans H75.out), lcI_get _ ht4]
                  clear hb8 hw8
                  go_wp2_with fail
                  refine wp_region_still_lit (by kernel_rfl) (by kernel_rfl) ?_
                  change wpStill _ _ (World.drew _) _ _ _
                  iterate 4 still_step
                  refine wpStill_didG (by kernel_rfl) (did_text (.tmp 101) rfl (some ⟨g8, 0, none⟩) 128 128 (s7.read (t : Int)) rfl HBS8.out) ?_
                  iterate 6 still_step
                  refine wpStill_nil ?_
                  change Exit.then _ _ _ _ (World.drew _)
                  go_wp2
                  go_roundw
                  case rel => exact ⟨t + 1, by omega, by go_num, HR8, HB8⟩
                  case measure => simp [intOf]; omega
                · go_wp2
                  go_roundw
                  case rel =>
                    repeat apply Exists.intro
                    refine ⟨?_, rfl⟩
                    exact ⟨a + 1, by omega, by go_num, HRI, HB7⟩
                  case measure => simp [intOf]; omega
          · go_wp2
            go_ret
            exact ⟨rfl, HBA.out⟩
end Go.Proofs.Ythokobooekmegaa
