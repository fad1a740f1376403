/-
  Contracts of package slot's unused, directory, Check, and of the conditions that Check asks (layer 11).
-/
import Derived.Test.YtbeahhijmgkfhaaLAll
import Derived.Test.YtbeahhijmgkfhaaLMem
import Derived.Test.YtbeahhijmgkfhaaEGet
import Derived.Laws.BitsAllLaws
namespace Go.Proofs.Ytbeahhijmgkfhaa
open Go.RowKit Go.Shelf

set_option maxRecDepth 100000 in
set_option maxHeartbeats 400000 in
theorem check1_any (s : Vl.Th) (v : Value) (B : Nat) (w : World) (h : Bw w B (sc s v) 26) :
    Calls Try.prog 29 #[.pointer (some ⟨B, 0, none⟩)] w fun e w' => e = .returned (.bool (decide (s.ino ≤ 23))) ∧ w = w' := by
  have e0 := h.cell 0 _ rfl
  clear h
  have hd : decide (s.ino < 24) = decide (s.ino ≤ 23) := by congr 1; apply propext; omega
  go_enter Try.func29, Try.ntmps29
  go_wp2
  go_ret
  exact ⟨by rw [← hd]; simp; omega, rfl⟩
set_option maxRecDepth 100000 in
set_option maxHeartbeats 400000 in
theorem check2_any (s : Vl.Th) (v : Value) (B : Nat) (w : World) (h : Bw w B (sc s v) 26) :
    Calls Try.prog 30 #[.pointer (some ⟨B, 0, none⟩)] w fun e w' => e = .returned (.bool (decide (s.kind ≤ 3))) ∧ w = w' := by
  have e0 := h.cell 1 _ rfl
  clear h
  go_enter Try.func30, Try.ntmps30
  go_wp2
  go_ret
  exact ⟨by simp; omega, rfl⟩
set_option maxRecDepth 100000 in
set_option maxHeartbeats 400000 in
theorem check3_any (s : Vl.Th) (A : Option Addr) (n cp : Nat) (B : Nat) (w : World) (h : Bw w B (sc s (.slice A n cp)) 26) (hn : s.dt.length = n) :
    Calls Try.prog 31 #[.pointer (some ⟨B, 0, none⟩)] w fun e w' => e = .returned (.bool (decide (s.dt.length ≤ 768))) ∧ w = w' := by
  have e0 := h.cell 8 _ rfl
  rw [hn]
  clear h hn
  go_enter Try.func31, Try.ntmps31
  go_wp2
  go_ret
  exact ⟨by simp; omega, rfl⟩
set_option maxRecDepth 100000 in
set_option maxHeartbeats 400000 in
theorem check5_any (s : Vl.Th) (v : Value) (B : Nat) (w : World) (h : Bw w B (sc s v) 26) :
    Calls Try.prog 34 #[.pointer (some ⟨B, 0, none⟩)] w fun e w' => e = .returned (.bool (decide (s.kind = 0) || decide (s.links ≠ 0))) ∧ w = w' := by
  have e1 := h.cell 1 _ rfl
  have e3 := h.cell 3 _ rfl
  clear h
  by_cases hk : s.kind = 0
  · have hz : ((s.kind : Int) == 0) = true := by simp [hk]
    go_enter Try.func34, Try.ntmps34
    go_wp2
    go_ret
    exact ⟨by simp [hk], rfl⟩
  · have hz : ((s.kind : Int) == 0) = false := by simp; omega
    go_enter Try.func34, Try.ntmps34
    go_wp2
    go_ret
    exact ⟨by simp [hk, Nat.pos_iff_ne_zero], rfl⟩

theorem or_zero {x y : Nat} : (x ||| y = 0) ↔ x = 0 ∧ y = 0 := by simp
theorem bits32_zero (a b : Nat) (ha : a < 4294967296) (hb : b < 4294967296) : (bits .or .u32 (a : Int) (b : Int) == 0) = (a == 0 && b == 0) := by
  rw [u32_or_nat _ _ ha hb, Bool.eq_iff_iff]
  have := @or_zero a b
  simp only [beq_iff_eq, Bool.and_eq_true]
  omega
theorem bits64_zero (a b : Nat) (ha : a < 18446744073709551616) (hb : b < 18446744073709551616) : (bits .or .u64 (a : Int) (b : Int) == 0) = (a == 0 && b == 0) := by
  rw [u64_or_nat _ _ ha hb, Bool.eq_iff_iff]
  have := @or_zero a b
  simp only [beq_iff_eq, Bool.and_eq_true]
  omega
set_option maxRecDepth 100000 in
set_option maxHeartbeats 400000 in
theorem unused_any (s : Vl.Th) (A : Option Addr) (n cp : Nat) (w : World) (hf : Fits s) (hn : s.dt.length = n) :
    Calls Try.prog 33 #[.agg (sc s (.slice A n cp)).toArray] w fun e w' => e = .returned (.bool (s.links == 0 && s.mode == 0 && s.cookie == 0 && s.verf == 0 && s.dt.length == 0)) ∧ Below w.heap.size w w' := by
  have h1 := bits32_zero s.links s.mode hf.wide.links hf.wide.mode
  have h2 := bits64_zero s.cookie s.verf hf.wide.cookie hf.wide.verf
  have HR : Hid ((s.links == 0 && s.mode == 0 && s.cookie == 0 && s.verf == 0 && s.dt.length == 0) = ((s.links == 0 && s.mode == 0) && (s.cookie == 0 && s.verf == 0) && decide (n = 0))) := by
    show _ = _
    rw [hn]
    simp only [Bool.and_assoc]
    rfl
  rw [HR.out]
  clear HR hn hf
  generalize (s.links == 0 && s.mode == 0) = x at *
  generalize (s.cookie == 0 && s.verf == 0) = y at *
  go_enter Try.func33, Try.ntmps33
  go_upto_region 1 with fail
  have HB0 : Hid (Bw (w.alloc (.cells (sc s (.slice A n cp)).toArray 26)) w.heap.size (sc s (.slice A n cp)) 26) := heap_alloc_new w _
  have HW0 : Hid (Below w.heap.size w (w.alloc (.cells (sc s (.slice A n cp)).toArray 26))) := (Below.refl _ w).alloc (Nat.le_refl _) _
  generalize w.alloc (.cells (sc s (.slice A n cp)).toArray 26) = w0 at *
  have e3 := HB0.out.cell 3 _ rfl
  have e4 := HB0.out.cell 4 _ rfl
  have e6 := HB0.out.cell 6 _ rfl
  have e7 := HB0.out.cell 7 _ rfl
  have e8 := HB0.out.cell 8 _ rfl
  cases x with
  | false =>
    go_wp2_with fail
    go_ret
    exact ⟨rfl, HW0.out⟩
  | true =>
    cases y with
    | false =>
      go_wp2_with fail
      go_ret
      exact ⟨rfl, HW0.out⟩
    | true =>
      go_wp2_with fail
      go_ret
      exact ⟨by simp; rw [Bool.eq_iff_iff]; simp, HW0.out⟩

set_option maxRecDepth 100000 in
set_option maxHeartbeats 400000 in
theorem check4_any (s : Vl.Th) (A : Option Addr) (n cp : Nat) (B : Nat) (w : World) (h : Bw w B (sc s (.slice A n cp)) 26) (hf : Fits s) (hn : s.dt.length = n) :
    Calls Try.prog 32 #[.pointer (some ⟨B, 0, none⟩)] w fun e w' => e = .returned (.bool (decide (s.kind ≠ 0) || (s.links == 0 && s.mode == 0 && s.cookie == 0 && s.verf == 0 && s.dt.length == 0))) ∧ Below w.heap.size w w' := by
  have e1 := h.cell 1 _ rfl
  have HB := Lib.hid h
  have HU := Lib.hid (unused_any s A n cp w hf hn)
  clear h hf hn
  generalize (s.links == 0 && s.mode == 0 && s.cookie == 0 && s.verf == 0 && s.dt.length == 0) = z at *
  by_cases hk : s.kind = 0
  · have hz : ((s.kind : Int) != 0) = false := by simp [hk]
    have HK : Hid (decide (s.kind ≠ 0) = false) := by simp [Hid, hk]
    rw [HK.out]
    clear hk HK
    go_enter Try.func32, Try.ntmps32
    have c0 := HB.out.cell 0 _ rfl
    have c2 := HB.out.cell 2 _ rfl
    have c3 := HB.out.cell 3 _ rfl
    have c4 := HB.out.cell 4 _ rfl
    have c5 := HB.out.cell 5 _ rfl
    have c6 := HB.out.cell 6 _ rfl
    have c7 := HB.out.cell 7 _ rfl
    have c8 := HB.out.cell 8 _ rfl
    go_wp2_with fail
    refine HU.out.mono ?_
    rintro e w1 ⟨rfl, hb⟩
    go_wp2_with fail
    go_ret
    exact ⟨by simp, hb⟩
  · have hz : ((s.kind : Int) != 0) = true := by simp; omega
    have HK : Hid (decide (s.kind ≠ 0) = true) := by simp [Hid, hk]
    rw [HK.out]
    clear hk HK
    go_enter Try.func32, Try.ntmps32
    go_wp2_with fail
    go_ret
    exact ⟨by simp, Below.refl _ _⟩

set_option maxRecDepth 100000 in
set_option maxHeartbeats 400000 in
theorem later_any (e : En) (B c : Nat) (w : World) (hc : w.cell? ⟨B, 6, none⟩ = some (.int .u64 (c : Int))) :
    Calls Try.prog 61 #[.agg (ec e).toArray, .pointer (some ⟨B, 0, none⟩)] w fun en w' => en = .returned (.bool (decide (c < e.ck))) ∧ Below w.heap.size w w' := by
  have c0 := (EB.new w 51 e).c0
  have cB : (w.alloc (.cells (ec e).toArray 51)).cell? ⟨B, 6, none⟩ = some (.int .u64 (c : Int)) := (World.cell?_alloc_lt _ _ _ (World.block_lt_of_cell? w _ hc)).trans hc
  clear hc
  go_enter Try.func61, Try.ntmps61
  go_wp2
  go_ret
  exact ⟨by simp, (Below.refl _ _).alloc (Nat.le_refl _) _⟩
theorem fndP_dec (p : En → Bool) (es : List En) : decide (0 ≤ fndP p es) = es.any p := by
  unfold fndP
  split
  · rename_i h
    have h1 : es.any p = true := by
      rw [List.any_eq_true]
      exact ⟨_, List.getElem_mem h, List.findIdx_getElem⟩
    rw [h1]
    simp
  · rename_i h
    have h1 : es.any p = false := by
      rw [List.any_eq_false]
      intro x hx hp
      exact h (List.findIdx_lt_length_of_exists ⟨x, hx, hp⟩)
    rw [h1]
    rfl
theorem dirB_any (dt : List UInt8) (ck : Nat) : Sl.dirB dt ck = (decide (errE dt = 0) && !((gotE dt).any fun e => decide (ck < e.ck))) := by
  unfold Sl.dirB
  congr 1
  rw [List.not_any_eq_all_not]
  congr 1
  funext e
  rw [← decide_not]
  congr 1
  apply propext
  omega
set_option maxRecDepth 100000 in
set_option maxHeartbeats 1000000 in
theorem containsE_any (A : Option Addr) (n cp : Nat) (es : List En) (w : World) (h : ES w A n es) (hn : n ≤ 100000000) (B c : Nat) (hc : w.cell? ⟨B, 6, none⟩ = some (.int .u64 (c : Int))) :
    Calls Try.prog 62 #[.slice A n cp, .func (.func 61) #[] #[.pointer (some ⟨B, 0, none⟩)]] w fun en w' => en = .returned (.bool (es.any fun e => decide (c < e.ck))) ∧ Below w.heap.size w w' := by
  have HC := Lib.hid (indexFunc_any A n cp es w h hn 61 (.pointer (some ⟨B, 0, none⟩)) (fun e => decide (c < e.ck)) (enters_of Try.func61 (by kernel_rfl) rfl)
    (fun W e hW => later_any e B c W ((hW.cell (World.block_lt_of_cell? w _ hc)).trans hc)))
  have hd := fndP_dec (fun e => decide (c < e.ck)) es
  rw [← hd]
  clear hd h hc
  generalize fndP (fun e => decide (c < e.ck)) es = z at *
  go_enter Try.func62, Try.ntmps62
  go_wp2_with fail
  refine HC.out.mono ?_
  rintro e w1 ⟨rfl, hb⟩
  go_wp2_with fail
  go_ret
  exact ⟨rfl, hb⟩
theorem gotE_len (l : List UInt8) : 20 * (gotE l).length ≤ l.length := by
  by_cases h : errE l = 0
  · obtain ⟨h1, h2⟩ := Go.Proofs.Ytbeahhijmgkfhaa.got_back l h
    have h3 := encs_min (gotE l)
    rw [show putE (gotE l) = encs (gotE l) from if_pos h1] at h2
    rw [h2] at h3
    exact h3
  · rw [show gotE l = [] from if_neg h]
    exact Nat.zero_le _
set_option maxRecDepth 100000 in
set_option maxHeartbeats 1000000 in
theorem directory_any (s : Vl.Th) (A : Option Addr) (n cp : Nat) (w : World) (h : BS w A n s.dt) (hn : n ≤ 1000) :
    Calls Try.prog 36 #[.agg (sc s (.slice A n cp)).toArray] w fun e w' => e = .returned (.bool (Sl.dirB s.dt s.cookie)) ∧ Below w.heap.size w w' := by
  have HX := Lib.hid h
  have HL := gotE_len s.dt
  rw [h.1] at HL
  have HG : Hid (∀ W, BS W A n s.dt → Calls Try.prog 60 #[.slice A n cp] W (EsQ (gotE s.dt) (errE s.dt) W)) := fun W hW => get_any A n cp s.dt W hW (by omega)
  rw [dirB_any]
  clear h
  generalize gotE s.dt = es at *
  generalize errE s.dt = er at *
  go_enter Try.func36, Try.ntmps36
  go_upto_region 1 with fail
  have HB0 : Hid (Bw (w.alloc (.cells (sc s (.slice A n cp)).toArray 26)) w.heap.size (sc s (.slice A n cp)) 26) := heap_alloc_new w _
  have HW0 : Hid (Below w.heap.size w (w.alloc (.cells (sc s (.slice A n cp)).toArray 26))) := (Below.refl _ w).alloc (Nat.le_refl _) _
  generalize w.alloc (.cells (sc s (.slice A n cp)).toArray 26) = w0 at *
  have e8 := HB0.out.cell 8 _ rfl
  go_wp2_with fail
  refine (HG.out w0 (HX.out.below HW0.out)).mono ?_
  rintro e w1 ⟨A1, n1, c1, rfl, hes, _, hb1⟩
  have HB1 := Lib.hid (HB0.out.below hb1)
  have HW1 := Lib.hid (HW0.out.trans (hb1.mono HW0.out.size))
  have HES := Lib.hid hes
  have hn1 : n1 ≤ 100000000 := by
    have h2 := hes.1
    omega
  clear hb1 hes HB0 HW0 HX hn e8 HL HG
  by_cases he : er = 0
  · subst he
    go_wp2_with fail
    refine (containsE_any A1 n1 c1 es w1 HES.out hn1 w.heap.size s.cookie (HB1.out.cell 6 _ rfl)).mono ?_
    rintro e w2 ⟨rfl, hb2⟩
    go_wp2_with fail
    go_ret
    exact ⟨by simp, HW1.out.trans (hb2.mono HW1.out.size)⟩
  · have hz : (er == 0) = false := by simpa using he
    go_wp2_with fail
    go_ret
    exact ⟨by simp [he], HW1.out⟩

set_option maxRecDepth 100000 in
set_option maxHeartbeats 400000 in
theorem check6_any (s : Vl.Th) (A : Option Addr) (n cp : Nat) (B : Nat) (w : World) (h : Bw w B (sc s (.slice A n cp)) 26) (hx : BS w A n s.dt) (hn : n ≤ 1000) :
    Calls Try.prog 35 #[.pointer (some ⟨B, 0, none⟩)] w fun e w' => e = .returned (.bool (decide (s.kind ≠ 2) || Sl.dirB s.dt s.cookie)) ∧ Below w.heap.size w w' := by
  have e1 := h.cell 1 _ rfl
  have HB := Lib.hid h
  have HU := Lib.hid (directory_any s A n cp w hx hn)
  clear h hx hn
  generalize Sl.dirB s.dt s.cookie = z at *
  by_cases hk : s.kind = 2
  · have hz : ((s.kind : Int) != 2) = false := by simp [hk]
    have HK : Hid (decide (s.kind ≠ 2) = false) := by simp [Hid, hk]
    rw [HK.out]
    clear hk HK
    have c0 := HB.out.cell 0 _ rfl
    have c2 := HB.out.cell 2 _ rfl
    have c3 := HB.out.cell 3 _ rfl
    have c4 := HB.out.cell 4 _ rfl
    have c5 := HB.out.cell 5 _ rfl
    have c6 := HB.out.cell 6 _ rfl
    have c7 := HB.out.cell 7 _ rfl
    have c8 := HB.out.cell 8 _ rfl
    go_enter Try.func35, Try.ntmps35
    go_wp2_with fail
    refine HU.out.mono ?_
    rintro e w1 ⟨rfl, hb⟩
    go_wp2_with fail
    go_ret
    exact ⟨by simp, hb⟩
  · have hz : ((s.kind : Int) != 2) = true := by simp; omega
    have HK : Hid (decide (s.kind ≠ 2) = true) := by simp [Hid, hk]
    rw [HK.out]
    clear hk HK
    go_enter Try.func35, Try.ntmps35
    go_wp2_with fail
    go_ret
    exact ⟨by simp, Below.refl _ _⟩

def checkFs (B : Nat) : List (Nat × Array Value) := [(29, #[.pointer (some ⟨B, 0, none⟩)]), (30, #[.pointer (some ⟨B, 0, none⟩)]), (31, #[.pointer (some ⟨B, 0, none⟩)]), (32, #[.pointer (some ⟨B, 0, none⟩)]), (34, #[.pointer (some ⟨B, 0, none⟩)]), (35, #[.pointer (some ⟨B, 0, none⟩)])]
def checkBs (s : Vl.Th) : List Bool := [decide (s.ino ≤ 23), decide (s.kind ≤ 3), decide (s.dt.length ≤ 768), decide (s.kind ≠ 0) || (s.links == 0 && s.mode == 0 && s.cookie == 0 && s.verf == 0 && s.dt.length == 0),
    decide (s.kind = 0) || decide (s.links ≠ 0), decide (s.kind ≠ 2) || Sl.dirB s.dt s.cookie]
theorem okS_bools (s : Vl.Th) : (checkBs s).all id = Sl.okS s := by
  simp only [checkBs, Sl.okS, Vl.Th.okB, List.all_cons, List.all_nil, Bool.and_true, id_eq]
  by_cases h0 : s.kind = 0
  · simp [h0, Bool.and_assoc]
  · by_cases h2 : s.kind = 2
    · simp [h2, Bool.and_assoc]
    · simp [h0, h2, Bool.and_assoc]
theorem still_below {F : Nat} {args : Array Value} {W : World} {b : Bool} (h : Calls Try.prog F args W fun e w' => e = .returned (.bool b) ∧ W = w') : Calls Try.prog F args W fun e w' => e = .returned (.bool b) ∧ Below W.heap.size W w' :=
  h.mono fun e w' hh => by obtain ⟨rfl, rfl⟩ := hh; exact ⟨rfl, Below.refl _ _⟩
theorem check_asked (s : Vl.Th) (A : Option Addr) (n cp : Nat) (B : Nat) (w : World) (hB : Bw w B (sc s (.slice A n cp)) 26) (hf : Fits s) (h : BS w A n s.dt) (hn : n ≤ 1000) : Asked w (checkFs B) (checkBs s) := by
  refine ⟨rfl, fun j hj hb _ W hW => ?_⟩
  have hBW := hB.below hW
  have hXW := h.below hW
  rcases j with _ | _ | _ | _ | _ | _ | j
  · exact ⟨enters_of Try.func29 (by kernel_rfl) rfl, still_below (check1_any s _ B W hBW)⟩
  · exact ⟨enters_of Try.func30 (by kernel_rfl) rfl, still_below (check2_any s _ B W hBW)⟩
  · exact ⟨enters_of Try.func31 (by kernel_rfl) rfl, still_below (check3_any s A n cp B W hBW h.1)⟩
  · exact ⟨enters_of Try.func32 (by kernel_rfl) rfl, check4_any s A n cp B W hBW hf h.1⟩
  · exact ⟨enters_of Try.func34 (by kernel_rfl) rfl, still_below (check5_any s _ B W hBW)⟩
  · exact ⟨enters_of Try.func35 (by kernel_rfl) rfl, check6_any s A n cp B W hBW hXW hn⟩
  · exact absurd hj (by simp [checkFs])
/-- A new block of functions. -/
theorem FS.new (w : World) (fs : List (Nat × Array Value)) (cs : Array Value) (t : TypeId) (hc : cs = (fs.map fun f => fnV f.1 f.2).toArray) : FS (w.alloc (.cells cs t)) w.heap.size fs.length fs := by
  subst hc
  refine ⟨rfl, fun j hj => ?_⟩
  rw [cell_of_row _ _ _ _ _ _ (heap_alloc_new w _)]
  simp [hj]
set_option maxRecDepth 100000 in
set_option maxHeartbeats 1000000 in
theorem checkS_any (s : Vl.Th) (A : Option Addr) (n cp : Nat) (w : World) (hf : Fits s) (h : BS w A n s.dt) (hn : n ≤ 1000) :
    Calls Try.prog 14 #[.agg (sc s (.slice A n cp)).toArray] w fun e w' => e = .returned (.int .i64 (Sl.chkS s)) ∧ Below w.heap.size w w' := by
  have HX := Lib.hid h
  have HF := Lib.hid hf
  have HOK := Lib.hid (okS_bools s)
  obtain ⟨ok, hok⟩ : ∃ b, Sl.okS s = b := ⟨_, rfl⟩
  obtain ⟨z, hz⟩ : ∃ z, Sl.chkS s = z := ⟨_, rfl⟩
  have HCK : Hid ((ok = true → z = 0) ∧ (ok = false → z = 1)) := by
    constructor
    · rintro rfl; rw [← hz]; exact if_pos hok
    · rintro rfl; rw [← hz]; exact if_neg (by simp [hok])
  rw [hok] at HOK
  rw [hz]
  clear h hf hok hz
  have hmf : ∀ (fn : Fn) (first cap : Array Value) (w : World), (Instr.makeFunc fn first cap).run Try.prog w = .ok (.func fn first cap) w := fun _ _ _ _ => rfl
  go_enter Try.func14, Try.ntmps14
  go_upto_region 1 with fail
  have HB0 : Hid (Bw (w.alloc (.cells (sc s (.slice A n cp)).toArray 26)) w.heap.size (sc s (.slice A n cp)) 26) := heap_alloc_new w _
  have HW0 : Hid (Below w.heap.size w (w.alloc (.cells (sc s (.slice A n cp)).toArray 26))) := (Below.refl _ w).alloc (Nat.le_refl _) _
  generalize w.alloc (.cells (sc s (.slice A n cp)).toArray 26) = w0 at *
  go_wp2_with fail
  refine (all_any w0.heap.size 6 6 (checkFs w.heap.size) (checkBs s) _ (FS.new w0 (checkFs w.heap.size) _ _ rfl) (by omega) ?_).mono ?_
  · exact check_asked s A n cp w.heap.size _ (HB0.out.below ((Below.refl _ _).alloc (Nat.le_refl _) _)) HF.out ((HX.out.below HW0.out).alloc _) hn
  rintro e w1 ⟨rfl, hb1⟩
  have HW1 : Hid (Below w.heap.size w w1) := HW0.out.trans (((Below.refl w0.heap.size w0).alloc (Nat.le_refl _) _).trans (hb1.mono (by simp)) |>.mono HW0.out.size)
  clear hb1
  rw [HOK.out]
  clear HOK
  cases ok with
  | true =>
    obtain rfl := HCK.out.1 rfl
    clear HCK
    go_wp2_with fail
    go_ret
    exact ⟨rfl, HW1.out⟩
  | false =>
    obtain rfl := HCK.out.2 rfl
    clear HCK
    go_wp2_with fail
    go_ret
    exact ⟨rfl, HW1.out⟩
end Go.Proofs.Ytbeahhijmgkfhaa
