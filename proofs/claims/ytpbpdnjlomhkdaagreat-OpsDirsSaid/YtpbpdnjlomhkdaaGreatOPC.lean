/-
  Small contracts of package ops: refuse, check, find, thing, directory (layer 13).
  Contracts of package ops: entries, has, named, and what refuses by kind or name (layer 13).
  Contract of report: what a reply tells of a thing (layer 13).
  Contracts of package ops: what refuses by kind, by entries, by name; what an operation leaves; Lookup, Getattr, Commit (layer 13).
-/
import Derived.Test.YtpbpdnjlomhkdaaGreatOPB
import Derived.BigQuiet
import Derived.StillTail
import Derived.StillTailTactics
namespace Go.Proofs.YtpbpdnjlomhkdaaGreat
open Go.RowKit Go.Shelf

set_option maxRecDepth 100000 in
set_option maxHeartbeats 1000000 in
theorem refuse_no (z : Int) (w : World) : Calls Tryz.prog 36 #[.bool false, .int .i64 z] w fun e w' => e = .returned (.tuple #[]) ∧ w = w' := by
  go_enter Tryz.func36, Tryz.ntmps36
  go_wp2
  go_end0
  exact ⟨rfl, rfl⟩
set_option maxRecDepth 100000 in
set_option maxHeartbeats 1000000 in
theorem refuse_yes (z : Int) (w : World) : Calls Tryz.prog 36 #[.bool true, .int .i64 z] w fun e w' => e = .panicked (pan z) ∧ w = w' := by
  go_enter Tryz.func36, Tryz.ntmps36
  go_wp2
  exact ⟨rfl, rfl, rfl⟩
set_option maxRecDepth 100000 in
set_option maxHeartbeats 1000000 in
theorem check_ok (w : World) : Calls Tryz.prog 106 #[.int .i64 0] w fun e w' => e = .returned (.tuple #[]) ∧ w = w' := by
  go_enter Tryz.func106, Tryz.ntmps106
  go_wp2_with (refine (refuse_no 0 _).mono ?_; rintro e w' ⟨rfl, rfl⟩)
  go_end0
  exact ⟨rfl, rfl⟩
set_option maxRecDepth 100000 in
set_option maxHeartbeats 1000000 in
theorem check_no (z : Int) (hz : z ≠ 0) (w : World) : Calls Tryz.prog 106 #[.int .i64 z] w fun e w' => e = .panicked (pan z) ∧ w = w' := by
  have hd : (z != 0) = true := by simpa using hz
  clear hz
  go_enter Tryz.func106, Tryz.ntmps106
  go_wp2_with (refine (refuse_yes z _).mono ?_; rintro e w' ⟨rfl, rfl⟩)
  exact ⟨rfl, rfl, rfl⟩
section
variable {w0 w w' : World} {p g k : Nat} {t u : Op.TT} {sl : Nat → Sl} {c : Cl} {B : Option Addr} {n d : Nat} {r r' : Rp} {D D' : Option Addr} {m e m' e' : Nat} {E E' : Option Addr} {q f q' f' : Nat}
theorem hnew0 (w : World) (i gn : Nat) : (w.alloc (.cells (hc i gn).toArray 35)).cell? ⟨w.heap.size, 0, none⟩ = some (.int .u32 (i : Int)) := by rw [cell_of_row _ _ _ _ _ _ (heap_alloc_new w _)]; rfl
theorem hnew1 (w : World) (i gn : Nat) : (w.alloc (.cells (hc i gn).toArray 35)).cell? ⟨w.heap.size, 1, none⟩ = some (.int .u32 (gn : Int)) := by rw [cell_of_row _ _ _ _ _ _ (heap_alloc_new w _)]; rfl
theorem alloc_below (w : World) (o : Obj) : Below w.heap.size w (w.alloc o) := (Below.refl _ w).alloc (Nat.le_refl _) _
/-- The place of a thing, if there may be one. -/
def plc (g i : Nat) : Option Addr := if i < 24 then some ⟨g, i * 9, none⟩ else none
set_option maxRecDepth 100000 in
set_option maxHeartbeats 2000000 in
theorem xfind_any (h : RX w0 w p g k t sl c B n d r D m e E q f) (i gn : Nat) :
    Calls Tryz.prog 146 #[.pointer (some ⟨p, 0, none⟩), .agg (hc i gn).toArray] w fun e w' => e = .returned (.tuple #[.pointer (plc g i), .bool (decide (Op.thingE t i gn = 0))]) ∧ Below w.heap.size w w' := by
  have h0 := hnew0 w i gn
  have h1 := hnew1 w i gn
  have hx := h.below (alloc_below w (.cells (hc i gn).toArray 35))
  have HB := Lib.hid (alloc_below w (.cells (hc i gn).toArray 35))
  have q0 := hx.cellR 0 _ rfl
  clear h
  by_cases hi : i < 24
  rotate_left
  · have hE : Hid (plc g i = none ∧ decide (Op.thingE t i gn = 0) = false) := ⟨if_neg hi, by unfold Op.thingE; rw [if_neg (fun h => hi (by omega))]; rfl⟩
    have hi2 : 24 ≤ i := by omega
    clear hx
    go_enter Tryz.func146, Tryz.ntmps146
    go_wp2_with fail
    go_ret2
    exact ⟨by rw [hE.out.1, hE.out.2]; rfl, HB.out⟩
  have q1 := hx.cellS hi 1 _ rfl
  have q2 := hx.cellS hi 2 _ rfl
  have hP : Hid (plc g i = some ⟨g, i * 9, none⟩) := if_pos hi
  clear hx
  by_cases hk : (t.s i).kind = 0
  · have hE : Hid (decide (Op.thingE t i gn = 0) = false) := by show _ = _; unfold Op.thingE; rw [if_neg (fun h => h.2.1 hk)]; rfl
    have hd : decide (¬ (t.s i).kind = 0) = false := by simpa using hk
    go_enter Tryz.func146, Tryz.ntmps146
    go_wp2_with fail
    go_quiet (fail)
    go_wp2_with fail
    go_quiet (fail)
    go_wp2_with fail
    go_ret2
    exact ⟨by rw [hP.out, hE.out]; simp, Below.drewM (Below.drewM HB.out _) _⟩
  have hd : decide (¬ (t.s i).kind = 0) = true := by simpa using hk
  by_cases hg : (t.s i).gen = gn
  · have hE : Hid (decide (Op.thingE t i gn = 0) = true) := by show _ = _; unfold Op.thingE; rw [if_pos ⟨by omega, hk, hg⟩]; rfl
    have hd2 : decide ((t.s i).gen = gn) = true := by simpa using hg
    go_enter Tryz.func146, Tryz.ntmps146
    go_wp2_with fail
    go_quiet (fail)
    go_wp2_with fail
    go_quiet (fail)
    go_wp2_with fail
    go_ret2
    exact ⟨by rw [hP.out, hE.out]; simp [hk], Below.drewM (Below.drewM HB.out _) _⟩
  · have hE : Hid (decide (Op.thingE t i gn = 0) = false) := by show _ = _; unfold Op.thingE; rw [if_neg (fun h => hg h.2.2)]; rfl
    have hd2 : decide ((t.s i).gen = gn) = false := by simpa using hg
    go_enter Tryz.func146, Tryz.ntmps146
    go_wp2_with fail
    go_quiet (fail)
    go_wp2_with fail
    go_quiet (fail)
    go_wp2_with fail
    go_ret2
    exact ⟨by rw [hP.out, hE.out]; simp [hk]; omega, Below.drewM (Below.drewM HB.out _) _⟩
theorem hc_load (w : World) (x y : Nat) : ∀ j u, (hc x y)[j]? = some u → (w.alloc (.cells (hc x y).toArray 35)).cell? ((⟨w.heap.size, 0, none⟩ : Addr).add j) = some u := fun j u hu => World.news_of_block (heap_alloc_new w _) j u (by simpa using hu)
/-- What is handed back, unless there is an error. -/
def ErQ (z : Int) (v : Value) (w : World) (e : Ending) (w' : World) : Prop := ((z = 0 ∧ e = .returned v) ∨ (z ≠ 0 ∧ e = .panicked (pan z))) ∧ Below w.heap.size w w'
theorem ErQ.no {z : Int} {v : Value} {w w' : World} (hz : z ≠ 0) (hb : Below w.heap.size w w') : ErQ z v w (.panicked (pan z)) w' := ⟨.inr ⟨hz, rfl⟩, hb⟩
theorem ErQ.ok {z : Int} {v : Value} {w w' : World} (hz : z = 0) (hb : Below w.heap.size w w') : ErQ z v w (.returned v) w' := ⟨.inl ⟨hz, rfl⟩, hb⟩
theorem thingE_two (t : Op.TT) (i gn : Nat) : (Op.thingE t i gn = 0 ∧ i < 24) ∨ Op.thingE t i gn = 69 := by
  by_cases hz : Op.thingE t i gn = 0
  · exact .inl ⟨hz, (Op.thing_ok hz).1⟩
  · refine .inr ?_
    unfold Op.thingE at hz ⊢
    split
    · rename_i hh; rw [if_pos hh] at hz; exact absurd rfl hz
    · rfl
set_option maxRecDepth 100000 in
set_option maxHeartbeats 2000000 in
theorem thing_any (h : RX w0 w p g k t sl c B n d r D m e E q f) (i gn : Nat) :
    Calls Tryz.prog 109 #[.pointer (some ⟨p, 0, none⟩), .agg (hc i gn).toArray] w (ErQ (Op.thingE t i gn) (.pointer (some ⟨g, i * 9, none⟩)) w) := by
  have hx := Lib.hid (h.below (alloc_below w (.cells (hc i gn).toArray 35)))
  have HB := Lib.hid (alloc_below w (.cells (hc i gn).toArray 35))
  have HL := Lib.hid (hc_load w i gn)
  clear h
  rcases thingE_two t i gn with ⟨h1, h2⟩ | h1
  · have hE : Hid (plc g i = some ⟨g, i * 9, none⟩ ∧ decide (Op.thingE t i gn = 0) = true ∧ Op.thingE t i gn = 0) := ⟨if_pos h2, by rw [h1]; rfl, h1⟩
    clear h1 h2
    go_enter Tryz.func109, Tryz.ntmps109
    go_wp2_with (refine Did.list rfl (did_load 35 (.tmp 3) rfl ⟨w.heap.size, 0, none⟩ rfl _ Tryz.underlying35 rfl (hc i gn) size_H HL.out) ?_)
    refine (xfind_any hx.out i gn).mono ?_
    rintro e w1 ⟨rfl, hb⟩
    rw [hE.out.1, hE.out.2.1]
    have HB1 : Hid (Below w.heap.size w w1) := HB.out.trans (hb.mono HB.out.size)
    clear hb
    go_wp2_with (refine (refuse_no 69 _).mono ?_; rintro e w' ⟨rfl, rfl⟩)
    go_ret
    exact .ok hE.out.2.2 HB1.out
  · have hE : Hid (decide (Op.thingE t i gn = 0) = false ∧ Op.thingE t i gn = 69) := ⟨by rw [h1]; rfl, h1⟩
    clear h1
    go_enter Tryz.func109, Tryz.ntmps109
    go_wp2_with (refine Did.list rfl (did_load 35 (.tmp 3) rfl ⟨w.heap.size, 0, none⟩ rfl _ Tryz.underlying35 rfl (hc i gn) size_H HL.out) ?_)
    refine (xfind_any hx.out i gn).mono ?_
    rintro e w1 ⟨rfl, hb⟩
    rw [hE.out.1]
    have HB1 : Hid (Below w.heap.size w w1) := HB.out.trans (hb.mono HB.out.size)
    clear hb
    go_wp2_with (refine (refuse_yes 69 _).mono ?_; rintro e w' ⟨rfl, rfl⟩)
    exact ⟨rfl, by rw [hE.out.2]; exact .no (by decide) HB1.out⟩
theorem folderE_at (t : Op.TT) (i gn : Nat) : Op.folderE t i gn = if Op.thingE t i gn ≠ 0 then 69 else if (t.s i).kind ≠ 2 then 62 else 0 := rfl
set_option maxRecDepth 100000 in
set_option maxHeartbeats 2000000 in
theorem folder_any (h : RX w0 w p g k t sl c B n d r D m e E q f) (i gn : Nat) :
    Calls Tryz.prog 105 #[.pointer (some ⟨p, 0, none⟩), .agg (hc i gn).toArray] w (ErQ (Op.folderE t i gn) (.pointer (some ⟨g, i * 9, none⟩)) w) := by
  have hx := Lib.hid (h.below (alloc_below w (.cells (hc i gn).toArray 35)))
  have HB := Lib.hid (alloc_below w (.cells (hc i gn).toArray 35))
  have HL := Lib.hid (hc_load w i gn)
  clear h
  obtain ⟨Z, hZ⟩ : ∃ Z, Z = Op.folderE t i gn := ⟨_, rfl⟩
  rw [← hZ]
  rw [folderE_at] at hZ
  have HZ := Lib.hid hZ
  clear hZ
  have HT := Lib.hid (thing_any hx.out i gn)
  go_enter Tryz.func105, Tryz.ntmps105
  go_wp2_with (refine Did.list rfl (did_load 35 (.tmp 3) rfl ⟨w.heap.size, 0, none⟩ rfl _ Tryz.underlying35 rfl (hc i gn) size_H HL.out) ?_)
  refine HT.out.mono ?_
  rintro e w1 ⟨⟨hz, rfl⟩ | ⟨hz, rfl⟩, hb⟩
  rotate_left
  · have h9 : Op.thingE t i gn = 69 := by
      rcases thingE_two t i gn with h1 | h1
      · exact absurd h1.1 hz
      · exact h1
    rw [h9]
    exact ⟨rfl, by rw [HZ.out, if_pos hz]; exact .no (by decide) (HB.out.trans (hb.mono HB.out.size))⟩
  have HB1 : Hid (Below w.heap.size w w1) := HB.out.trans (hb.mono HB.out.size)
  have hi := (Op.thing_ok hz).1
  have q1 := (hx.out.below hb).cellS hi 1 _ rfl
  have HZ2 : Hid (Z = if (t.s i).kind ≠ 2 then 62 else 0) := HZ.out.trans (if_neg (fun h => h hz))
  clear hb hz HT HL HZ
  by_cases hk : (t.s i).kind = 2
  · have hd : (((t.s i).kind : Int) != 2) = false := by simp; omega
    have HZ3 : Hid (Z = 0) := HZ2.out.trans (if_neg (fun h => h hk))
    clear HZ2
    go_wp2_with (refine (refuse_no 62 _).mono ?_; rintro e w' ⟨rfl, rfl⟩)
    go_ret
    exact .ok HZ3.out HB1.out
  · have hd2 : (((t.s i).kind : Int) != 2) = true := by simp; omega
    have HZ3 : Hid (Z = 62) := HZ2.out.trans (if_pos hk)
    clear HZ2
    go_wp2_with (refine (refuse_yes 62 _).mono ?_; rintro e w' ⟨rfl, rfl⟩)
    exact ⟨rfl, by rw [HZ3.out]; exact .no (by decide) HB1.out⟩
end
end Go.Proofs.YtpbpdnjlomhkdaaGreat

namespace Go.Proofs.YtpbpdnjlomhkdaaGreat
open Go.RowKit Go.Shelf

theorem find_at {es : List En} {nm : List UInt8} {e : En} (h : es.find? (fun x => x.nm == nm) = some e) : ∃ k, ∃ hk : k < es.length, fnd es nm = (k : Int) ∧ es[k] = e := by
  obtain ⟨h1, a, b, h2, h3⟩ := List.find?_eq_some_iff_append.1 h
  have hn : e.nm = nm := by simpa using h1
  have ha : ∀ x ∈ a, x.nm ≠ nm := fun x hx => by simpa using h3 x hx
  refine ⟨a.length, by rw [h2]; simp, ?_, by simp [h2]⟩
  have hi : es.findIdx (fun x => x.nm == nm) = a.length := by
    rw [h2, List.findIdx_append]
    have : a.findIdx (fun x => x.nm == nm) = a.length := List.findIdx_eq_length.2 fun x hx => by simpa using ha x hx
    rw [this, if_neg (by omega), List.findIdx_cons]
    simp [hn]
  unfold fnd
  rw [hi, if_pos (by rw [h2]; simp)]
namespace Op
/-- A directory that may be. -/
structure Dir (t : TT) (i : Nat) : Prop where
  lt : i < 24
  ok : Sl.okS (t.s i) = true
  kind : (t.s i).kind = 2
theorem Dir.err {t : TT} {i : Nat} (h : Dir t i) : errE (t.s i).dt = 0 := (Sl.dir_of _ h.ok h.kind).1
theorem Dir.len {t : TT} {i : Nat} (h : Dir t i) : (t.s i).dt.length ≤ 768 := (Vl.okB_facts h.ok).2.2
theorem Dir.few {t : TT} {i : Nat} (h : Dir t i) : (ents t i).length ≤ 38 := ents_few h.ok h.kind
theorem Inv.isDir {t : TT} {x : Nat → Nat} (h : Inv t x) {i : Nat} (hi : i < 24) (hk : (t.s i).kind = 2) : Dir t i := ⟨hi, h.may.ok i hi, hk⟩
end Op
/-- Entries that are handed back. -/
def EnQ (es : List En) (w : World) (e : Ending) (w' : World) : Prop := ∃ A n c, e = .returned (.slice A n c) ∧ ES w' A n es ∧ (n ≤ c ∧ c ≤ 9223372036854775807) ∧ Below w.heap.size w w'
section
variable {w0 w w' : World} {p g k : Nat} {t u : Op.TT} {sl : Nat → Sl} {c : Cl} {B : Option Addr} {n d : Nat} {r r' : Rp} {D D' : Option Addr} {m e m' e' : Nat} {E E' : Option Addr} {q f q' f' : Nat}
set_option maxRecDepth 100000 in
set_option maxHeartbeats 2000000 in
theorem entries_any (h : RX w0 w p g k t sl c B n d r D m e E q f) {i : Nat} (hd : Op.Dir t i) :
    Calls Tryz.prog 125 #[.pointer (some ⟨g, i * 9, none⟩)] w (EnQ (Op.ents t i) w) := by
  have q8 := h.cellS hd.lt 8 _ rfl
  have hb := (h.sx.bs i hd.lt).1
  have hl := hd.len
  have HC := Lib.hid (get_any (sl i).a (sl i).n (sl i).c (t.s i).dt w hb (by rw [← hb.1]; omega))
  rw [hd.err] at HC
  have HE : Hid (gotE (t.s i).dt = Op.ents t i) := rfl
  clear h hd hb hl
  go_enter Tryz.func125, Tryz.ntmps125
  go_wp2_with fail
  refine HC.out.mono ?_
  rintro e w1 ⟨A, x, y, rfl, h1, h2, h3⟩
  rw [HE.out] at h1
  have H1 := Lib.hid h1
  have H2 := Lib.hid h2
  have H3 := Lib.hid h3
  clear h1 h2 h3 HC
  go_wp2_with (refine (check_ok _).mono ?_; rintro e w' ⟨rfl, rfl⟩)
  go_ret
  exact ⟨A, x, y, rfl, H1.out, H2.out, H3.out⟩
set_option maxRecDepth 100000 in
set_option maxHeartbeats 2000000 in
theorem has_any (h : RX w0 w p g k t sl c B n d r D m e E q f) {i : Nat} (hd : Op.Dir t i) (nm : List UInt8) :
    Calls Tryz.prog 113 #[.pointer (some ⟨g, i * 9, none⟩), .string (txt nm)] w fun e w' => e = .returned (.bool (Op.look t i nm).isSome) ∧ Below w.heap.size w w' := by
  have HC := Lib.hid (entries_any h hd)
  have HF : Hid (decide (0 ≤ fnd (Op.ents t i) nm) = (Op.look t i nm).isSome) := by
    show _ = _
    unfold Op.look
    cases hf : (Op.ents t i).find? fun e => e.nm == nm with
    | none => have := (fnd_look (Op.ents t i) nm).2 hf; simp; omega
    | some x => obtain ⟨k, hk, h1, _⟩ := find_at hf; rw [h1]; simp
  have HW := hd.few
  generalize Op.ents t i = es at *
  generalize (Op.look t i nm).isSome = b at *
  clear h hd
  go_enter Tryz.func113, Tryz.ntmps113
  go_wp2_with fail
  refine HC.out.mono ?_
  rintro e w1 ⟨A, x, y, rfl, h1, h2, h3⟩
  have H1 := Lib.hid h1
  have H3 := Lib.hid h3
  have hx : x ≤ 38 := by rw [← h1.1]; exact HW
  clear h1 h2 h3 HC HW
  go_wp2_with fail
  refine (find_any A x y es nm w1 H1.out (by omega)).mono ?_
  rintro e w2 ⟨rfl, hb⟩
  have HB : Hid (Below w.heap.size w w2) := H3.out.trans (hb.mono H3.out.size)
  clear hb
  go_wp2_with fail
  go_ret
  exact ⟨by rw [← HF.out]; rfl, HB.out⟩
/-- The error of a name's thing. -/
def nameX (t : Op.TT) (i : Nat) (nm : List UInt8) : Int := match Op.look t i nm with | none => 60 | some e => Op.thingE t e.ino e.gen
/-- .. and its number. -/
def nameI (t : Op.TT) (i : Nat) (nm : List UInt8) : Nat := match Op.look t i nm with | none => 0 | some e => e.ino
set_option maxRecDepth 100000 in
set_option maxHeartbeats 2000000 in
theorem named_any (h : RX w0 w p g k t sl c B n d r D m e E q f) {i : Nat} (hd : Op.Dir t i) (nm : List UInt8) :
    Calls Tryz.prog 108 #[.pointer (some ⟨p, 0, none⟩), .pointer (some ⟨g, i * 9, none⟩), .string (txt nm)] w (ErQ (nameX t i nm) (.pointer (some ⟨g, nameI t i nm * 9, none⟩)) w) := by
  have HC := Lib.hid (entries_any h hd)
  have HT : Hid (∀ w1, Below w.heap.size w w1 → ∀ j x, Calls Tryz.prog 109 #[.pointer (some ⟨p, 0, none⟩), .agg (hc j x).toArray] w1 (ErQ (Op.thingE t j x) (.pointer (some ⟨g, j * 9, none⟩)) w1)) := fun w1 hb j x => thing_any (h.below hb) j x
  have HW := hd.few
  cases hl : Op.look t i nm with
  | none =>
    have HX : Hid (nameX t i nm = 60) := by show _ = _; unfold nameX; rw [hl]
    have HF : Hid (decide (fnd (Op.ents t i) nm < 0) = true) := by show _ = _; simpa using (fnd_look (Op.ents t i) nm).2 hl
    generalize Op.ents t i = es at *
    clear h hd hl
    go_enter Tryz.func108, Tryz.ntmps108
    go_wp2_with fail
    refine HC.out.mono ?_
    rintro e w1 ⟨A, x, y, rfl, h1, h2, h3⟩
    have H1 := Lib.hid h1
    have H3 := Lib.hid h3
    have hx : x ≤ 38 := by rw [← h1.1]; exact HW
    clear h1 h2 h3 HC HW
    go_wp2_with fail
    refine (find_any A x y es nm w1 H1.out (by omega)).mono ?_
    rintro e w2 ⟨rfl, hb⟩
    have HB : Hid (Below w.heap.size w w2) := H3.out.trans (hb.mono H3.out.size)
    have hf := HF.out
    generalize fnd es nm = z at *
    clear hb
    go_wp2_with (refine (refuse_yes 60 _).mono ?_; rintro e w' ⟨rfl, rfl⟩)
    exact ⟨rfl, by rw [HX.out]; exact .no (by decide) HB.out⟩
  | some z =>
    obtain ⟨j, hj, hf, hz⟩ := find_at hl
    have HX : Hid (nameX t i nm = Op.thingE t z.ino z.gen ∧ nameI t i nm = z.ino) := by show _ ∧ _; unfold nameX nameI; rw [hl]; exact ⟨rfl, rfl⟩
    have HF := Lib.hid hf
    have HZ := Lib.hid hz
    generalize Op.ents t i = es at *
    clear h hd hl hf hz
    go_enter Tryz.func108, Tryz.ntmps108
    go_wp2_with fail
    refine HC.out.mono ?_
    rintro e w1 ⟨A, x, y, rfl, h1, h2, h3⟩
    have H1 := Lib.hid h1
    have H3 := Lib.hid h3
    have hx : x ≤ 38 := by rw [← h1.1]; exact HW
    have hjx : j < x := by rw [← h1.1]; exact hj
    clear h1 h2 h3 HC HW
    go_wp2_with fail
    refine (find_any A x y es nm w1 H1.out (by omega)).mono ?_
    rintro e w2 ⟨rfl, hb⟩
    rw [HF.out]
    have HB : Hid (Below w.heap.size w w2) := H3.out.trans (hb.mono H3.out.size)
    obtain ⟨b, o, rfl, _, hj2, hcell⟩ := (H1.out.below hb).at hjx
    have HL : Hid (∀ a u, (hc z.ino z.gen)[a]? = some u → w2.cell? ((⟨b, o + j * 4 + 1, none⟩ : Addr).add a) = some u) := fun a u hu => by
      rw [add_plain, Nat.add_assoc (o + j * 4) 1 a]
      refine hcell (1 + a) u ?_
      rw [HZ.out]
      match a, hu with
      | 0, hu => exact hu
      | 1, hu => exact hu
      | a + 2, hu => simp [hc] at hu
    have HTT := Lib.hid (HT.out w2 HB.out z.ino z.gen)
    clear hb hcell HF HT
    go_wp2_with (first
      | (refine (refuse_no 60 _).mono ?_; rintro e w' ⟨rfl, rfl⟩)
      | (refine Did.list rfl (did_load 35 (.tmp 21) rfl ⟨b, o + j * 4 + 1, none⟩ rfl _ Tryz.underlying35 rfl (hc z.ino z.gen) size_H HL.out) ?_))
    refine HTT.out.mono ?_
    rintro e w3 ⟨⟨hz, rfl⟩ | ⟨hz, rfl⟩, hb⟩
    · have HB3 : Hid (Below w.heap.size w w3) := HB.out.trans (hb.mono HB.out.size)
      have HZ0 := Lib.hid hz
      clear hb hz
      go_wp2_with fail
      go_ret
      exact ⟨.inl ⟨HX.out.1.trans HZ0.out, by rw [HX.out.2]; rfl⟩, HB3.out⟩
    · exact ⟨rfl, by rw [HX.out.1]; exact .no hz (HB.out.trans (hb.mono HB.out.size))⟩
end
end Go.Proofs.YtpbpdnjlomhkdaaGreat

namespace Go.Proofs.YtpbpdnjlomhkdaaGreat
open Go.RowKit Go.Shelf

section
variable {w0 w w' : World} {p g k : Nat} {t u : Op.TT} {sl : Nat → Sl} {c : Cl} {B : Option Addr} {n d : Nat} {r r' : Rp} {D D' : Option Addr} {m e m' e' : Nat} {E E' : Option Addr} {q f q' f' : Nat}
/-- The cells of what is known of a thing. -/
def atc (r : Rp) : List Value := [.int .u32 (r.kd : Int), .int .u32 (r.md : Int), .int .u32 (r.ln : Int), .int .u32 (r.sz : Int), .int .u64 (r.ch : Int)]
theorem size_At : (Tryz.prog.info? 46).map (·.size) = some 5 := by kernel_rfl
/-- What report leaves. -/
def ReQ (w0 : World) (p g k : Nat) (t : Op.TT) (sl : Nat → Sl) (c : Cl) (B : Option Addr) (n d : Nat) (r : Rp) (D : Option Addr) (m e : Nat) (E : Option Addr) (q f : Nat) (w : World) (en : Ending) (w' : World) : Prop :=
  en = .returned (.tuple #[]) ∧ RX w0 w' p g k t sl c B n d r D m e E q f ∧ (∀ K : Nat → Prop, (∀ j, K j → j < w.heap.size ∧ j ≠ p) → Keep K w w')
set_option maxRecDepth 100000 in
set_option maxHeartbeats 4000000 in
theorem report_any (h : RX w0 w p g k t sl c B n d r D m e E q f) {i : Nat} (hi : i < 24) :
    Calls Tryz.prog 107 #[.pointer (some ⟨p, 0, none⟩), .pointer (some ⟨g, i * 9, none⟩)] w (ReQ w0 p g k t sl c B n d (Op.told t r i) D m e E q f w) := by
  have HX := Lib.hid h
  have HL := Lib.hid (h.sx.load hi)
  have HLEN : Hid ((t.s i).dt.length = (sl i).n) := (h.sx.bs i hi).1.1
  have HW : Hid (IntKind.u32.wrap ((sl i).n : Int) = (((t.s i).dt.length % 4294967296 : Nat) : Int)) := by show _ = _; rw [IntKind.wrap_u32, (h.sx.bs i hi).1.1]; omega
  clear h
  go_enter Tryz.func107, Tryz.ntmps107
  go_wp2_with (refine Did.list rfl (did_load 92 (.tmp 6) rfl ⟨g, i * 9, none⟩ rfl _ Tryz.underlying92 rfl (sc (t.s i) (.slice (sl i).a (sl i).n (sl i).c)) size_Sl HL.out) ?_)
  refine (handleS_any (t.s i) _ w).mono ?_
  rintro e w1 ⟨rfl, hb⟩
  have HX1 := Lib.hid (HX.out.below hb)
  have HB1 := Lib.hid hb
  clear hb HX HL
  go_upto_region 1 with (refine wpList_store_part rfl 35 (.tmp 11) (.tmp 8) rfl p 20 (hc (t.s i).ino (t.s i).gen) rfl rfl 104 _ HX1.out.run size_H (by simp [hc, xc, tc, cc, rc]) (hc_one _ _) ?_
                         intro w2 hb2 hs2 hk2)
  have HX2 : Hid (RX w0 w2 p g k t sl c B n d { r with ati := (t.s i).ino, atg := (t.s i).gen } D m e E q f) := HX1.out.putR hk2 hb2 rfl
  have HK2 : Hid (∀ K : Nat → Prop, (∀ j, K j → j < w.heap.size ∧ j ≠ p) → Keep K w w2) := fun K hK => ((Keep.of_below HB1.out).mono fun j hj => (hK j hj).1).trans (hk2.mono fun j hj => (hK j hj).2)
  have q1 := HX2.out.cellS hi 1 _ rfl
  have q3 := HX2.out.cellS hi 3 _ rfl
  have q4 := HX2.out.cellS hi 4 _ rfl
  have q5 := HX2.out.cellS hi 5 _ rfl
  have q8 := HX2.out.cellS hi 8 _ rfl
  have HR2 : Hid (Bw w2.drew p (xc t g k c (.slice B n d) { r with ati := (t.s i).ino, atg := (t.s i).gen } (.slice D m e) (.slice E q f)) 104) := HX2.out.run
  have HX3 := Lib.hid HX2.out.drew
  clear hb2 hs2 hk2 HX1 HB1 HX2
  refine wp_region_still_tail 27 (by kernel_rfl) (by kernel_rfl) ?_
  simp only [List.take_succ_cons, List.take_zero, List.drop_succ_cons, List.drop_zero]
  change wpStill _ _ (World.drew _) _ _ _
  iterate 27 still_step
  refine wpStill_nil ?_
  change wpList _ _ _ _ _ (World.drew _)
  go_wp2_with (refine wpList_store_part rfl 46 (.tmp 38) (.tmp 35) rfl p 22 [.int .u32 ((t.s i).kind : Int), .int .u32 ((t.s i).mode : Int), .int .u32 ((t.s i).links : Int), .int .u32 (IntKind.u32.wrap ((sl i).n : Int)), .int .u64 ((t.s i).change : Int)] rfl rfl 104 _ HR2.out size_At (by simp [xc, tc, cc, rc]) (by simp [Value.oneCell']) ?_
               intro w4 hb4 hs4 hk4
               rw [HW.out] at hb4
               have HX4 : Hid (RX w0 w4 p g k t sl c B n d (Op.told t r i) D m e E q f) := HX3.out.putR hk4 hb4 rfl
               have HK4 : Hid (∀ K : Nat → Prop, (∀ j, K j → j < w.heap.size ∧ j ≠ p) → Keep K w w4) := fun K hK => ((HK2.out K hK).drew).trans (hk4.mono fun j hj => (hK j hj).2)
               clear hb4 hs4 hk4)
  go_end0
  exact ⟨rfl, HX4.out, HK4.out⟩
end
end Go.Proofs.YtpbpdnjlomhkdaaGreat

namespace Go.Proofs.YtpbpdnjlomhkdaaGreat
open Go.RowKit Go.Shelf

/-- What an operation leaves: an error, or things and a reply. -/
def OutQ (w0 : World) (p g k : Nat) (c : Cl) (B : Option Addr) (n d : Nat) (R : Op.Res) (en : Ending) (w' : World) : Prop :=
  match R with
  | .error z => en = .panicked (pan z) ∧ Below w0.heap.size w0 w'
  | .ok y => en = .returned (.tuple #[]) ∧ ∃ sl D m e E q f, RX w0 w' p g k y.1 sl c B n d y.2 D m e E q f ∧ RM w' D m e E q f y.2
section
variable {w0 w w' : World} {p g k : Nat} {t u : Op.TT} {sl : Nat → Sl} {c : Cl} {B : Option Addr} {n d : Nat} {r r' : Rp} {D D' : Option Addr} {m e m' e' : Nat} {E E' : Option Addr} {q f q' f' : Nat} {R : Op.Res}
theorem OutQ.no {z : Int} (hR : R = .error z) (hb : Below w0.heap.size w0 w') : OutQ w0 p g k c B n d R (.panicked (pan z)) w' := by
  subst hR
  exact ⟨rfl, hb⟩
theorem OutQ.ok (hR : R = .ok (u, r)) (hx : RX w0 w' p g k u sl c B n d r D m e E q f) (hm : RM w' D m e E q f r) : OutQ w0 p g k c B n d R (.returned (.tuple #[])) w' := by
  subst hR
  exact ⟨rfl, sl, D, m, e, E, q, f, hx, hm⟩
/-- A reply without data and entries. -/
theorem RM.none {w : World} {r : Rp} (h1 : r.dt = []) (h2 : r.es = []) : RM w none 0 0 none 0 0 r := ⟨by rw [h1]; exact BS.nil, by rw [h2]; exact ES.nil, by omega⟩
/-- No entry fits any place of the struct. -/
theorem ES.rep {A : Option Addr} {x : Nat} {es : List En} (he : ES w A x es) (h : RX w0 w p g k t sl c B n d r D m e E q f) (hk : ∀ j, j < w.heap.size → j ≠ p → w'.heap[j]? = w.heap[j]?) : ES w' A x es := by
  refine ⟨he.1, fun hn => ?_⟩
  obtain ⟨b, o, e1, hc⟩ := he.2 hn
  have hbp : b ≠ p := by
    rintro rfl
    have hj : 0 < es.length := by rw [he.1]; exact hn
    have h0 := hc 0 hj 0 _ rfl
    have h1 := hc 0 hj 1 _ rfl
    have h3 := hc 0 hj 3 _ rfl
    rw [cell_of_row _ _ _ _ _ _ h.run] at h0 h1 h3
    simp only [Nat.zero_mul, Nat.add_zero, List.getElem?_toArray] at h0 h1 h3
    by_cases ho : o < 32
    · rcases (by omega : o = 0 ∨ o = 1 ∨ o = 2 ∨ o = 3 ∨ o = 4 ∨ o = 5 ∨ o = 6 ∨ o = 7 ∨ o = 8 ∨ o = 9 ∨ o = 10 ∨ o = 11 ∨ o = 12 ∨ o = 13 ∨ o = 14 ∨ o = 15 ∨ o = 16 ∨ o = 17 ∨ o = 18 ∨ o = 19 ∨ o = 20 ∨ o = 21 ∨ o = 22 ∨ o = 23 ∨ o = 24 ∨ o = 25 ∨ o = 26 ∨ o = 27 ∨ o = 28 ∨ o = 29 ∨ o = 30 ∨ o = 31) with
        rfl | rfl | rfl | rfl | rfl | rfl | rfl | rfl | rfl | rfl | rfl | rfl | rfl | rfl | rfl | rfl | rfl | rfl | rfl | rfl | rfl | rfl | rfl | rfl | rfl | rfl | rfl | rfl | rfl | rfl | rfl | rfl <;>
        first
          | (exfalso; cases h0; done)
          | (exfalso; cases h1; done)
          | (exfalso; cases h3; done)
    · have : (xc t g k c (.slice B n d) r (.slice D m e) (.slice E q f)).length ≤ o := by show 32 ≤ o; omega
      rw [List.getElem?_eq_none this] at h0
      cases h0
  exact ⟨b, o, e1, fun j hj i v hv => (World.cell?_of_block (hk b (World.block_lt_of_cell? w _ (hc j hj i v hv)) hbp)).trans (hc j hj i v hv)⟩
theorem ES.offX (h : RX w0 w p g k t sl c B n d r D m e E q f) {A : Option Addr} {x : Nat} {es : List En} (he : ES w A x es) (hk : Keep (· ≠ p) w w') : ES w' A x es := he.rep h fun j _ hj => hk.block j hj
theorem BS.rep (h : RX w0 w p g k t sl c B n d r D m e E q f) {A : Option Addr} {x : Nat} {l : List UInt8} (hb : BS w A x l) (hk : ∀ K : Nat → Prop, (∀ j, K j → j < w.heap.size ∧ j ≠ p) → Keep K w w') : BS w' A x l :=
  hb.off h.noByte fun j hj hne => (hk (fun j => j < w.heap.size ∧ j ≠ p) (fun _ h => h)).block j ⟨hj, hne⟩
theorem xc_at : ∀ j x, (hc c.ati c.atg)[j]? = some x → (xc t g k c (.slice B n d) r (.slice D m e) (.slice E q f))[6 + j]? = some x := fun j x h => by
  match j, h with
  | 0, h => exact h
  | 1, h => exact h
  | j + 2, h => simp [hc] at h
theorem xc_to : ∀ j x, (hc c.toi c.tog)[j]? = some x → (xc t g k c (.slice B n d) r (.slice D m e) (.slice E q f))[9 + j]? = some x := fun j x h => by
  match j, h with
  | 0, h => exact h
  | 1, h => exact h
  | j + 2, h => simp [hc] at h
set_option maxRecDepth 100000 in
set_option maxHeartbeats 2000000 in
theorem file_any (h : RX w0 w p g k t sl c B n d r D m e E q f) {i : Nat} (hi : i < 24) :
    Calls Tryz.prog 110 #[.pointer (some ⟨g, i * 9, none⟩)] w (ErQ (if (t.s i).kind = 2 then 63 else if (t.s i).kind = 3 then 64 else 0) (.tuple #[]) w) := by
  have q1 := h.cellS hi 1 _ rfl
  clear h
  generalize (t.s i).kind = kd at *
  by_cases h2 : kd = 2
  · rw [if_pos h2]
    subst h2
    go_enter Tryz.func110, Tryz.ntmps110
    go_wp2_with (refine (refuse_yes 63 _).mono ?_; rintro e w' ⟨rfl, rfl⟩)
    exact ⟨rfl, .no (by decide) (Below.refl _ _)⟩
  · have hd2 : ((kd : Int) == 2) = false := by simp; omega
    rw [if_neg h2]
    by_cases h3 : kd = 3
    · rw [if_pos h3]
      subst h3
      clear hd2 h2
      go_enter Tryz.func110, Tryz.ntmps110
      go_wp2_with (first | (refine (refuse_no 63 _).mono ?_; rintro e w' ⟨rfl, rfl⟩) | (refine (refuse_yes 64 _).mono ?_; rintro e w' ⟨rfl, rfl⟩))
      exact ⟨rfl, .no (by decide) (Below.refl _ _)⟩
    · have hd3 : ((kd : Int) == 3) = false := by simp; omega
      rw [if_neg h3]
      go_enter Tryz.func110, Tryz.ntmps110
      go_wp2_with (first | (refine (refuse_no 63 _).mono ?_; rintro e w' ⟨rfl, rfl⟩) | (refine (refuse_no 64 _).mono ?_; rintro e w' ⟨rfl, rfl⟩))
      go_end0
      exact .ok rfl (Below.refl _ _)
set_option maxRecDepth 100000 in
set_option maxHeartbeats 2000000 in
theorem empty_any (h : RX w0 w p g k t sl c B n d r D m e E q f) {i : Nat} (hi : i < 24) (ho : Sl.okS (t.s i) = true) :
    Calls Tryz.prog 118 #[.pointer (some ⟨g, i * 9, none⟩)] w (ErQ (if (t.s i).kind ≠ 2 then 62 else if Op.ents t i ≠ [] then 68 else 0) (.tuple #[]) w) := by
  have q1 := h.cellS hi 1 _ rfl
  by_cases h2 : (t.s i).kind = 2
  rotate_left
  · rw [if_pos h2]
    have hd2 : (((t.s i).kind : Int) != 2) = true := by simp; omega
    clear h ho
    generalize (t.s i).kind = kd at *
    go_enter Tryz.func118, Tryz.ntmps118
    go_wp2_with (refine (refuse_yes 62 _).mono ?_; rintro e w' ⟨rfl, rfl⟩)
    exact ⟨rfl, .no (by decide) (Below.refl _ _)⟩
  rw [if_neg (fun h => h h2)]
  have HC := Lib.hid (entries_any h ⟨hi, ho, h2⟩)
  rw [h2] at q1
  clear h ho h2
  obtain ⟨Z, hZ⟩ : ∃ Z : Int, Z = if Op.ents t i ≠ [] then 68 else 0 := ⟨_, rfl⟩
  rw [← hZ]
  have HZ := Lib.hid hZ
  clear hZ
  generalize Op.ents t i = es at *
  go_enter Tryz.func118, Tryz.ntmps118
  go_wp2_with (refine (refuse_no 62 _).mono ?_; rintro e w' ⟨rfl, rfl⟩)
  refine HC.out.mono ?_
  rintro e w1 ⟨A, x, y, rfl, h1, h2, h3⟩
  have HL : Hid (es.length = x) := h1.1
  have H3 := Lib.hid h3
  clear h1 h2 h3 HC
  by_cases hx : x = 0
  · have HZ2 : Hid (Z = 0) := HZ.out.trans (if_neg (fun h => h (List.eq_nil_of_length_eq_zero (by rw [HL.out]; exact hx))))
    subst hx
    clear HZ
    go_wp2_with (refine (refuse_no 68 _).mono ?_; rintro e w' ⟨rfl, rfl⟩)
    go_end0
    exact .ok HZ2.out H3.out
  · have HZ2 : Hid (Z = 68) := HZ.out.trans (if_pos (fun h => hx (by rw [← HL.out, h]; rfl)))
    have hx2 : 0 < x := by omega
    clear HZ
    go_wp2_with (refine (refuse_yes 68 _).mono ?_; rintro e w' ⟨rfl, rfl⟩)
    exact ⟨rfl, by rw [HZ2.out]; exact .no (by decide) H3.out⟩
set_option maxRecDepth 100000 in
set_option maxHeartbeats 2000000 in
theorem refName_any2 (h : RX w0 w p g k t sl c B n d r D m e E q f) {i : Nat} (hd : Op.Dir t i) (nm : List UInt8) :
    Calls Tryz.prog 116 #[.pointer (some ⟨g, i * 9, none⟩), .string (txt nm)] w (ErQ (if nameOk nm = false then 67 else if (Op.look t i nm).isSome = true then 61 else 0) (.tuple #[]) w) := by
  have HC : Hid (∀ w1, Below w.heap.size w w1 → Calls Tryz.prog 113 #[.pointer (some ⟨g, i * 9, none⟩), .string (txt nm)] w1 fun e w' => e = .returned (.bool (Op.look t i nm).isSome) ∧ Below w1.heap.size w1 w') := fun w1 hb => has_any (h.below hb) hd nm
  clear h hd
  generalize (Op.look t i nm).isSome = b at *
  cases hn : nameOk nm with
  | false =>
    rw [if_pos rfl]
    have HN : Hid (nameE nm = 67) := by show _ = _; unfold nameE; rw [hn]; rfl
    clear hn
    go_enter Tryz.func116, Tryz.ntmps116
    go_wp2_with fail
    refine (name_any nm w).mono ?_
    rintro e w1 ⟨rfl, hb⟩
    rw [HN.out]
    have HB := Lib.hid hb
    clear hb
    go_wp2_with (refine (check_no 67 (by decide) _).mono ?_; rintro e w' ⟨rfl, rfl⟩)
    exact ⟨rfl, .no (by decide) HB.out⟩
  | true =>
    rw [if_neg (by decide)]
    have HN : Hid (nameE nm = 0) := by show _ = _; unfold nameE; rw [hn]; rfl
    clear hn
    cases b with
    | false =>
      rw [if_neg (by decide)]
      go_enter Tryz.func116, Tryz.ntmps116
      go_wp2_with fail
      refine (name_any nm w).mono ?_
      rintro e w1 ⟨rfl, hb⟩
      rw [HN.out]
      have HB := Lib.hid hb
      clear hb
      go_wp2_with (refine (check_ok _).mono ?_; rintro e w' ⟨rfl, rfl⟩)
      refine (HC.out w1 HB.out).mono ?_
      rintro e w2 ⟨rfl, hb⟩
      have HB2 : Hid (Below w.heap.size w w2) := HB.out.trans (hb.mono HB.out.size)
      clear hb
      go_wp2_with (refine (refuse_no 61 _).mono ?_; rintro e w' ⟨rfl, rfl⟩)
      go_end0
      exact .ok rfl HB2.out
    | true =>
      rw [if_pos rfl]
      go_enter Tryz.func116, Tryz.ntmps116
      go_wp2_with fail
      refine (name_any nm w).mono ?_
      rintro e w1 ⟨rfl, hb⟩
      rw [HN.out]
      have HB := Lib.hid hb
      clear hb
      go_wp2_with (refine (check_ok _).mono ?_; rintro e w' ⟨rfl, rfl⟩)
      refine (HC.out w1 HB.out).mono ?_
      rintro e w2 ⟨rfl, hb⟩
      have HB2 : Hid (Below w.heap.size w w2) := HB.out.trans (hb.mono HB.out.size)
      clear hb
      go_wp2_with (refine (refuse_yes 61 _).mono ?_; rintro e w' ⟨rfl, rfl⟩)
      exact ⟨rfl, .no (by decide) HB2.out⟩
set_option maxRecDepth 100000 in
set_option maxHeartbeats 2000000 in
theorem replace_any (h : RX w0 w p g k t sl c B n d r D m e E q f) {i j : Nat} (hi : i < 24) (hj : j < 24) (ho : Sl.okS (t.s j) = true) :
    Calls Tryz.prog 119 #[.pointer (some ⟨g, i * 9, none⟩), .pointer (some ⟨g, j * 9, none⟩)] w (ErQ (if (t.s i).kind = 2 then (if (t.s j).kind ≠ 2 then 62 else if Op.ents t j ≠ [] then 68 else 0) else if (t.s j).kind = 2 then 63 else 0) (.tuple #[]) w) := by
  have q1 := h.cellS hi 1 _ rfl
  have q2 := h.cellS hj 1 _ rfl
  have HE := Lib.hid (empty_any h hj ho)
  clear h ho
  by_cases h2 : (t.s i).kind = 2
  · rw [if_pos h2]
    rw [h2] at q1
    obtain ⟨Z, hZ⟩ : ∃ Z : Int, Z = if (t.s j).kind ≠ 2 then 62 else if Op.ents t j ≠ [] then 68 else 0 := ⟨_, rfl⟩
    rw [← hZ] at HE ⊢
    clear hZ h2 q2
    go_enter Tryz.func119, Tryz.ntmps119
    go_wp2_with fail
    refine HE.out.mono ?_
    rintro e w1 ⟨⟨hz, rfl⟩ | ⟨hz, rfl⟩, hb⟩
    · have HB := Lib.hid hb
      subst hz
      clear hb
      go_wp2_with fail
      go_end0
      exact .ok rfl HB.out
    · exact ⟨rfl, .no hz hb⟩
  · rw [if_neg h2]
    have hd : (((t.s i).kind : Int) == 2) = false := by simp; omega
    clear HE
    by_cases h3 : (t.s j).kind = 2
    · rw [if_pos h3]
      rw [h3] at q2
      clear h3 h2
      generalize (t.s i).kind = kd at *
      go_enter Tryz.func119, Tryz.ntmps119
      go_wp2_with (refine (refuse_yes 63 _).mono ?_; rintro e w' ⟨rfl, rfl⟩)
      exact ⟨rfl, .no (by decide) (Below.refl _ _)⟩
    · rw [if_neg h3]
      have hd3 : (((t.s j).kind : Int) == 2) = false := by simp; omega
      clear h3 h2
      generalize (t.s i).kind = kd at *
      generalize (t.s j).kind = ke at *
      go_enter Tryz.func119, Tryz.ntmps119
      go_wp2_with (refine (refuse_no 63 _).mono ?_; rintro e w' ⟨rfl, rfl⟩)
      go_end0
      exact .ok rfl (Below.refl _ _)
end
end Go.Proofs.YtpbpdnjlomhkdaaGreat
