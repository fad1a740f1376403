/-
  Contract of package inode's readAll, of both widths: numbers are read into a block's cells, in order (layer 7).
-/
import Derived.Test.YtkgpgaanodmpiaaIWrite
namespace Go.Proofs.Ytkgpgaanodmpiaa
open Go.RowKit

/-- The cells of a block from o on are these, all others as they were. -/
def upd (cs : List Value) (o : Nat) (vs : List Value) : List Value := cs.take o ++ vs ++ cs.drop (o + vs.length)
theorem upd_nil (cs : List Value) (o : Nat) : upd cs o [] = cs := by simp [upd]
theorem upd_snoc (cs : List Value) (o : Nat) (vs : List Value) (v : Value) (h : o + vs.length < cs.length) : upd cs o (vs ++ [v]) = (upd cs o vs).set (o + vs.length) v := by
  unfold upd
  have h1 : (cs.take o ++ vs).length = o + vs.length := by rw [List.length_append, List.length_take]; omega
  rw [List.set_append_right _ _ (by omega), h1, Nat.sub_self, List.drop_eq_getElem_cons h, List.set_cons_zero, List.length_append, List.length_singleton]
  simp [Nat.add_assoc]
theorem upd_length (cs : List Value) (o : Nat) (vs : List Value) (h : o + vs.length ≤ cs.length) : (upd cs o vs).length = cs.length := by
  unfold upd
  simp only [List.length_append, List.length_take, List.length_drop]
  omega
/-- A block known whole. -/
def Cs (w : World) (g : Nat) (cs : List Value) (t : TypeId) : Prop := w.heap[g]? = some (.cells cs.toArray t (0, 0))
section
variable {w w' : World} {g : Nat} {cs : List Value} {t : TypeId}
theorem Cs.lt (h : Cs w g cs t) : g < w.heap.size := by
  rcases Nat.lt_or_ge g w.heap.size with hlt | hge
  · exact hlt
  · unfold Cs at h; rw [Array.getElem?_eq_none hge] at h; cases h
theorem Cs.froz (h : Cs w g cs t) (o : Nat) : w.frozen? ⟨g, o, none⟩ = false := by unfold Cs at h; simp [World.frozen?, h]
theorem Cs.set (h : Cs w g cs t) (o : Nat) (v : Value) : Cs (w.setCell ⟨g, o, none⟩ v) g (cs.set o v) t := by
  unfold Cs at *
  simp [World.setCell, Array.getElem?_modify, h]
theorem Cs.grown {row : Option Nat} (h : Cs w g cs t) (hg : w.grownBy w' row) (hr : row ≠ some g) : Cs w' g cs t := (hg.block g h.lt (fun e => hr e.symm)).trans h
theorem Cs.below (h : Cs w g cs t) (hb : Below w.heap.size w w') : Cs w' g cs t := (hb.block g h.lt).trans h
theorem Cs.cell (h : Cs w g cs t) (o : Nat) (v : Value) (hv : cs[o]? = some v) : w.cell? ⟨g, o, none⟩ = some v := by
  rw [cell_of_row w g o _ _ (0, 0) h]
  simpa using hv
end
/-- All is as it was, but for the blocks q and g. -/
structure But (q g : Nat) (w w' : World) : Prop where
  os : w'.os = w.os
  tape : w'.tape = w.tape
  output : w'.output = w.output
  size : w.heap.size ≤ w'.heap.size
  block : ∀ k, k < w.heap.size → k ≠ q → k ≠ g → w'.heap[k]? = w.heap[k]?
section
variable {q g : Nat} {a b c w w' : World}
theorem But.refl (q g : Nat) (w : World) : But q g w w := ⟨rfl, rfl, rfl, Nat.le_refl _, fun _ _ _ _ => rfl⟩
theorem But.trans (h : But q g a b) (k : But q g b c) : But q g a c :=
  ⟨k.os.trans h.os, k.tape.trans h.tape, k.output.trans h.output, Nat.le_trans h.size k.size, fun i hi h1 h2 => (k.block i (Nat.lt_of_lt_of_le hi h.size) h1 h2).trans (h.block i hi h1 h2)⟩
theorem But.one (h : w.grownBy w' (some q)) : But q g w w' := ⟨h.os, h.tape, h.output, h.size, fun k hk h1 _ => h.block k hk (fun e => h1 (by injection e))⟩
theorem But.below (h : Below w.heap.size w w') : But q g w w' := ⟨h.os, h.tape, h.output, h.size, fun k hk _ _ => h.block k hk⟩
theorem But.set (o : Nat) (v : Value) : But q g w (w.setCell ⟨g, o, none⟩ v) := ⟨rfl, rfl, rfl, by simp [World.setCell], fun k _ _ h2 => Below.heap_setCell w ⟨g, o, none⟩ v k h2⟩
theorem But.toBelow {B : Nat} (h : But q g w w') (hB : B ≤ w.heap.size) (hq : B ≤ q) (hg : B ≤ g) : Below B w w' := ⟨h.os, h.tape, h.output, h.size, fun k hk => h.block k (by omega) (by omega) (by omega)⟩
theorem But.cell (h : But q g w w') {p : Addr} (hp : p.block < w.heap.size) (h1 : p.block ≠ q) (h2 : p.block ≠ g) : w'.cell? p = w.cell? p := World.cell?_of_block (h.block _ hp h1 h2)
end

/-- Numbers as cells. -/
def c32 (xs : List Nat) : List Value := xs.map fun x : Nat => Value.int .u32 (x : Int)
set_option maxRecDepth 100000 in
set_option maxHeartbeats 1000000 in
theorem readAll32 (w : World) (q : Nat) (s : St) (g o : Nat) (cs : List Value) (t : TypeId) (pb n cp : Nat) (h : Rd w q s.1 s.2) (hg : Cs w g cs t) (ht : t ≠ 5) (hq : q ≠ g) (ho : o + n ≤ cs.length)
    (hp : ∀ j, j < n → w.cell? ⟨pb, j, none⟩ = some (.pointer (some ⟨g, o + j, none⟩))) (hpb : pb < w.heap.size) (hpq : pb ≠ q) (hpg : pb ≠ g) (hn : n ≤ 1000) :
    Calls Try.prog 33 #[.func (.func 34) #[.pointer (some ⟨q, 0, none⟩)] #[], .slice (some ⟨pb, 0, none⟩) n cp] w fun e w' => e = .returned (.tuple #[]) ∧
      Rd w' q (Nd.rds 4 n s).1.1 (Nd.rds 4 n s).1.2 ∧ Cs w' g (upd cs o (c32 (Nd.rds 4 n s).2)) t ∧ But q g w w' := by
  have H := Lib.hid h
  have HG := Lib.hid hg
  have HP := Lib.hid hp
  clear h hg hp
  go_enter Try.func33, Try.ntmps33
  go_wp2
  go_loopw [8] (fun i wr => ∃ k : Nat, k ≤ n ∧ i = .int .i64 k ∧ Hid (Rd wr q (Nd.rds 4 k s).1.1 (Nd.rds 4 k s).1.2) ∧ Hid (Cs wr g (upd cs o (c32 (Nd.rds 4 k s).2)) t) ∧ Hid (But q g w wr)) (fun i _ => n - (intOf i).toNat)
  case atStart => exact ⟨0, by omega, rfl, H, (by show Cs _ _ (upd cs o []) _; rw [upd_nil]; exact HG.out), But.refl _ _ _⟩
  case round =>
    obtain ⟨k, hk, rfl, HR, HC, HB⟩ := hrel
    by_cases hlt : k < n
    · have hcx : wr.cell? ⟨pb, k, none⟩ = some (.pointer (some ⟨g, o + k, none⟩)) := (HB.out.cell (p := ⟨pb, k, none⟩) hpb hpq hpg).trans (HP.out k hlt)
      have HL := Lib.hid (Nd.rds_len 4 k s)
      have HL1 : Hid (o + (c32 (Nd.rds 4 k s).2).length = o + k) := by show _ = _; unfold c32; rw [List.length_map, HL.out]
      go_wp2_with fail
      refine (u32r wr q (Nd.rds 4 k s).1.1 (Nd.rds 4 k s).1.2 HR.out).mono ?_
      rintro e w1 ⟨rfl, h1, h2⟩
      have HR1 : Hid (Rd w1 q (Nd.rds 4 (k + 1) s).1.1 (Nd.rds 4 (k + 1) s).1.2) := h1
      have HC1 := Lib.hid (HC.out.grown h2 (fun e => hq (by injection e)))
      have HB1 := Lib.hid (HB.out.trans (But.one h2))
      have hf : w1.frozen? ⟨g, o + k, none⟩ = false := HC1.out.froz _
      have hc2 : ∃ u, w1.cell? ⟨g, o + k, none⟩ = some u := by
        have hlen : (upd cs o (c32 (Nd.rds 4 k s).2)).length = cs.length := upd_length _ _ _ (by rw [HL1.out]; omega)
        exact ⟨_, HC1.out.cell (o + k) _ (List.getElem?_eq_getElem (by rw [hlen]; omega))⟩
      obtain ⟨u, hc2⟩ := hc2
      clear h1 h2 HR HC HB
      generalize hv : (rdN 4 ((Nd.rds 4 k s).1.1, (Nd.rds 4 k s).1.2)).2 = v at *
      have HS : Hid (upd cs o (c32 (Nd.rds 4 (k + 1) s).2) = (upd cs o (c32 (Nd.rds 4 k s).2)).set (o + k) (.int .u32 (v : Int))) := by
        show _ = _
        have e1 : c32 (Nd.rds 4 (k + 1) s).2 = c32 (Nd.rds 4 k s).2 ++ [.int .u32 (v : Int)] := by
          show c32 ((Nd.rds 4 k s).2 ++ [(rdN 4 (Nd.rds 4 k s).1).2]) = _
          have e2 : (rdN 4 (Nd.rds 4 k s).1).2 = v := hv
          rw [e2]
          unfold c32
          simp
        rw [e1, upd_snoc _ _ _ _ (by rw [HL1.out]; omega), HL1.out]
      have HV1 := Lib.hid hv
      clear hv
      go_wp2
      go_roundw
      case rel =>
        refine ⟨k + 1, by omega, by go_num, HR1.out.off HC1.out ht hq (fun j _ hj => Below.heap_setCell w1 ⟨g, o + k, none⟩ _ j hj), ?_, HB1.out.trans (But.set _ _)⟩
        show Cs _ _ _ _
        rw [HS.out]
        exact HC1.out.set _ _
      case measure => simp [intOf]; omega
    · have : k = n := by omega
      subst this
      go_wp2
      go_end0
      exact ⟨rfl, HR.out, HC.out, HB.out⟩

/-- Numbers as cells. -/
def c64 (xs : List Nat) : List Value := xs.map fun x : Nat => Value.int .u64 (x : Int)
set_option maxRecDepth 100000 in
set_option maxHeartbeats 1000000 in
theorem readAll64 (w : World) (q : Nat) (s : St) (g o : Nat) (cs : List Value) (t : TypeId) (pb n cp : Nat) (h : Rd w q s.1 s.2) (hg : Cs w g cs t) (ht : t ≠ 5) (hq : q ≠ g) (ho : o + n ≤ cs.length)
    (hp : ∀ j, j < n → w.cell? ⟨pb, j, none⟩ = some (.pointer (some ⟨g, o + j, none⟩))) (hpb : pb < w.heap.size) (hpq : pb ≠ q) (hpg : pb ≠ g) (hn : n ≤ 1000) :
    Calls Try.prog 35 #[.func (.func 36) #[.pointer (some ⟨q, 0, none⟩)] #[], .slice (some ⟨pb, 0, none⟩) n cp] w fun e w' => e = .returned (.tuple #[]) ∧
      Rd w' q (Nd.rds 8 n s).1.1 (Nd.rds 8 n s).1.2 ∧ Cs w' g (upd cs o (c64 (Nd.rds 8 n s).2)) t ∧ But q g w w' := by
  have H := Lib.hid h
  have HG := Lib.hid hg
  have HP := Lib.hid hp
  clear h hg hp
  go_enter Try.func35, Try.ntmps35
  go_wp2
  go_loopw [8] (fun i wr => ∃ k : Nat, k ≤ n ∧ i = .int .i64 k ∧ Hid (Rd wr q (Nd.rds 8 k s).1.1 (Nd.rds 8 k s).1.2) ∧ Hid (Cs wr g (upd cs o (c64 (Nd.rds 8 k s).2)) t) ∧ Hid (But q g w wr)) (fun i _ => n - (intOf i).toNat)
  case atStart => exact ⟨0, by omega, rfl, H, (by show Cs _ _ (upd cs o []) _; rw [upd_nil]; exact HG.out), But.refl _ _ _⟩
  case round =>
    obtain ⟨k, hk, rfl, HR, HC, HB⟩ := hrel
    by_cases hlt : k < n
    · have hcx : wr.cell? ⟨pb, k, none⟩ = some (.pointer (some ⟨g, o + k, none⟩)) := (HB.out.cell (p := ⟨pb, k, none⟩) hpb hpq hpg).trans (HP.out k hlt)
      have HL := Lib.hid (Nd.rds_len 8 k s)
      have HL1 : Hid (o + (c64 (Nd.rds 8 k s).2).length = o + k) := by show _ = _; unfold c64; rw [List.length_map, HL.out]
      go_wp2_with fail
      refine (u64r wr q (Nd.rds 8 k s).1.1 (Nd.rds 8 k s).1.2 HR.out).mono ?_
      rintro e w1 ⟨rfl, h1, h2⟩
      have HR1 : Hid (Rd w1 q (Nd.rds 8 (k + 1) s).1.1 (Nd.rds 8 (k + 1) s).1.2) := h1
      have HC1 := Lib.hid (HC.out.grown h2 (fun e => hq (by injection e)))
      have HB1 := Lib.hid (HB.out.trans (But.one h2))
      have hf : w1.frozen? ⟨g, o + k, none⟩ = false := HC1.out.froz _
      have hc2 : ∃ u, w1.cell? ⟨g, o + k, none⟩ = some u := by
        have hlen : (upd cs o (c64 (Nd.rds 8 k s).2)).length = cs.length := upd_length _ _ _ (by rw [HL1.out]; omega)
        exact ⟨_, HC1.out.cell (o + k) _ (List.getElem?_eq_getElem (by rw [hlen]; omega))⟩
      obtain ⟨u, hc2⟩ := hc2
      clear h1 h2 HR HC HB
      generalize hv : (rdN 8 ((Nd.rds 8 k s).1.1, (Nd.rds 8 k s).1.2)).2 = v at *
      have HS : Hid (upd cs o (c64 (Nd.rds 8 (k + 1) s).2) = (upd cs o (c64 (Nd.rds 8 k s).2)).set (o + k) (.int .u64 (v : Int))) := by
        show _ = _
        have e1 : c64 (Nd.rds 8 (k + 1) s).2 = c64 (Nd.rds 8 k s).2 ++ [.int .u64 (v : Int)] := by
          show c64 ((Nd.rds 8 k s).2 ++ [(rdN 8 (Nd.rds 8 k s).1).2]) = _
          have e2 : (rdN 8 (Nd.rds 8 k s).1).2 = v := hv
          rw [e2]
          unfold c64
          simp
        rw [e1, upd_snoc _ _ _ _ (by rw [HL1.out]; omega), HL1.out]
      have HV1 := Lib.hid hv
      clear hv
      go_wp2
      go_roundw
      case rel =>
        refine ⟨k + 1, by omega, by go_num, HR1.out.off HC1.out ht hq (fun j _ hj => Below.heap_setCell w1 ⟨g, o + k, none⟩ _ j hj), ?_, HB1.out.trans (But.set _ _)⟩
        show Cs _ _ _ _
        rw [HS.out]
        exact HC1.out.set _ _
      case measure => simp [intOf]; omega
    · have : k = n := by omega
      subst this
      go_wp2
      go_end0
      exact ⟨rfl, HR.out, HC.out, HB.out⟩
end Go.Proofs.Ytkgpgaanodmpiaa
