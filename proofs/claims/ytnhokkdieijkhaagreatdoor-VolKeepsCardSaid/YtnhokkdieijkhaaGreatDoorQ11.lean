/-
  A volume in memory, as the laws of layer 12 use it.
  The law's example (layer 12).
-/
import Derived.Test.YtnhokkdieijkhaaGreatDoorQ10
namespace Go.Proofs.YtnhokkdieijkhaaGreatDoor
open Go.RowKit Go.Shelf

/-- Blocks of slices of bytes, just made. -/
theorem RI.made (w : World) (n : Nat) : RI (w.alloc (.cells (Array.replicate n (.slice none 0 0)) 30)) (some ⟨w.heap.size, 0, none⟩) n (List.replicate n []) := by
  refine ⟨List.length_replicate, fun hn => ⟨w.heap.size, 0, rfl, fun k hk => ⟨⟨none, 0, 0⟩, ?_, ?_, Nat.zero_le _⟩⟩⟩
  · rw [Nat.zero_add, cell_of_row _ _ _ _ _ _ (heap_alloc_new w _)]
    simp [hk]
  · have : (List.replicate n ([] : List UInt8)).getD k [] = [] := by simp [List.getD, hk]
    rw [this]
    exact BS.nil
theorem run_make_rows (w : World) (n : Nat) (hn : n ≤ 1000000) : (Instr.makeSlice 26 (.int .i64 (n : Int)) (.int .i64 (n : Int))).run Tryz.prog w = .ok (.slice (some ⟨w.heap.size, 0, none⟩) n n) (w.alloc (.cells (Array.replicate n (.slice none 0 0)) 30)) := by
  obtain ⟨ii, hii, hiz, his, hib⟩ := info_parts info_rows
  have hr := run_makeSlice (P := Tryz.prog) w 26 30 ii (.slice none 0 0) Tryz.underlying26 hii hiz .i64 .i64 (n : Int) (n : Int) (by omega) (by omega) (by rw [his]; simp; omega) (by rw [hib]; omega) (by omega)
  simp only [Int.toNat_natCast, his, Nat.mul_one] at hr
  rw [hr, madeCells_rows]

/-- A volume: the transaction at p, its map at m, all its blocks from block B on; the things Sv lie on the blocks bl; c is the number of changes. -/
structure VX (w : World) (p m : Nat) (x : Sl) (B : Nat) (X : TX) (Sv : Nat → Vl.Th) (bl : Nat → List Nat) (c : Nat) : Prop where
  tq : Tq w p m x (fun k => B ≤ k) X
  vol : Vl.Vol Sl.dirB x.n X.get Sv bl
  sm : ∀ i, (X.get i).length ≤ 96
  ch : X.get 10 = Vl.encC c
  cn : c < 18446744073709551616
  n1 : 36 ≤ x.n
  n2 : x.n ≤ 803
  bn : B ≤ w.heap.size
/-- The same, told less. -/
def Vm (w : World) (p n B : Nat) (Sv : Nat → Vl.Th) (c : Nat) : Prop := ∃ m x X bl, VX w p m x B X Sv bl c ∧ x.n = n
section
variable {w w' : World} {p m B c : Nat} {x : Sl} {X : TX} {Sv : Nat → Vl.Th} {bl : Nat → List Nat}
theorem VX.below (h : VX w p m x B X Sv bl c) (hb : Below w.heap.size w w') : VX w' p m x B X Sv bl c := ⟨h.tq.below hb, h.vol, h.sm, h.ch, h.cn, h.n1, h.n2, Nat.le_trans h.bn hb.size⟩
theorem VX.vm (h : VX w p m x B X Sv bl c) : Vm w p x.n B Sv c := ⟨m, x, X, bl, h, rfl⟩
theorem VX.hS (h : VX w p m x B X Sv bl c) : ∀ k, w.heap.size ≤ k → B ≤ k := fun _ hk => Nat.le_trans h.bn hk
theorem Vm.below {n : Nat} (h : Vm w p n B Sv c) (hb : Below w.heap.size w w') : Vm w' p n B Sv c := by
  obtain ⟨m, x, X, bl, h1, h2⟩ := h
  exact ⟨m, x, X, bl, h1.below hb, h2⟩
/-- A volume with nothing in it. -/
theorem VX.fresh {n : Nat} {g : Option Addr} {N c' : Nat} (h : Tq w p m ⟨g, n, c'⟩ (fun k => B ≤ k) (TX.new (List.replicate N []))) (h1 : 36 ≤ n) (h2 : n ≤ 803) (hb : B ≤ w.heap.size) : VX w p m ⟨g, n, c'⟩ B (TX.new (List.replicate N [])) Vl.bare (fun _ => []) 0 := by
  have hg : (TX.new (List.replicate N [])).get = fun _ => [] := by
    funext i
    show ((List.replicate N ([] : List UInt8)).getD i []) = []
    rw [List.getD_eq_getElem?_getD, List.getElem?_replicate]
    split <;> rfl
  exact ⟨h, by rw [hg]; exact Vl.Vol.fresh _ _, fun i => by rw [hg]; simp, by rw [hg]; rfl, by omega, h1, h2, hb⟩
theorem new_fresh (n : Nat) (A : Option Addr) (k : Nat) (w : World) (h : RI w A n (List.replicate n [])) (h1 : 36 ≤ n) (h2 : n ≤ 803) (hB : B ≤ w.heap.size) : Calls Tryz.prog 10 #[.slice A n k] w fun e w' => ∃ p m g, e = .returned (.pointer (some ⟨p, 0, none⟩)) ∧ VX w' p m ⟨g, n, n⟩ B (TX.new (List.replicate n [])) Vl.bare (fun _ => []) 0 ∧ Below w.heap.size w w' ∧ w.heap.size ≤ p := by
  refine (new_any A n k _ w h (by omega)).mono ?_
  rintro e w' ⟨g, m, p, rfl, ht, hb, hp, hm⟩
  exact ⟨p, m, some ⟨g, 0, none⟩, rfl, VX.fresh (ht.mono fun k hk => Nat.le_trans hB hk) h1 h2 (Nat.le_trans hB hb.size), hb, hp⟩
/-- What a save leaves. -/
def SvQ (w : World) (p m : Nat) (x : Sl) (B : Nat) (X : TX) (Sv : Nat → Vl.Th) (bl : Nat → List Nat) (c : Nat) (l : List Vl.Th) (e : Ending) (w' : World) : Prop :=
  e = .returned (.int .i64 (Vl.svE Sl.dirB x.n l Sv)) ∧ Ch (· = p) w w' ∧
    ((Vl.svE Sl.dirB x.n l Sv ≠ 0 ∧ VX w' p m x B X Sv bl c) ∨
      (Vl.svE Sl.dirB x.n l Sv = 0 ∧ ∃ m' X' st, VX w' p m' x B X' (Vl.setS l Sv) st.bl c ∧ Vl.save x.n l X.get Sv bl = some st ∧ X'.get = Vl.upd st.B 9 st.T))
theorem VX.save (h : VX w p m x B X Sv bl c) (A : Option Addr) (n k : Nat) (l : List Vl.Th) (hl : SS w A n l) (hf : ∀ s ∈ l, Fits s ∧ s.dt.length ≤ 1000) (hn : n ≤ 1000000) :
    Calls Tryz.prog 13 #[.pointer (some ⟨p, 0, none⟩), .slice A n k] w (SvQ w p m x B X Sv bl c l) := by
  refine (save_any h.tq h.hS h.n1 h.n2 h.sm Sv bl h.vol A n k l hl hf hn).mono ?_
  rintro e w' ⟨rfl, hc, h1 | h1⟩
  · exact ⟨rfl, hc, .inl ⟨h1.1, h1.2, h.vol, h.sm, h.ch, h.cn, h.n1, h.n2, Nat.le_trans h.bn hc.size⟩⟩
  · obtain ⟨h0, m', X', st, ht, hm, hl, hs, hg, hv, hsm, hlow⟩ := h1
    exact ⟨rfl, hc, .inr ⟨h0, m', X', st, ⟨ht, hv, hsm, by rw [hlow 10 (.inr rfl)]; exact h.ch, h.cn, h.n1, h.n2, Nat.le_trans h.bn hc.size⟩, hs, hg⟩⟩
/-- The same, told less. -/
def SmQ (w : World) (p n B : Nat) (Sv : Nat → Vl.Th) (c : Nat) (l : List Vl.Th) (e : Ending) (w' : World) : Prop :=
  e = .returned (.int .i64 (Vl.svE Sl.dirB n l Sv)) ∧ Ch (· = p) w w' ∧ Vm w' p n B (Vl.svS Sl.dirB n l Sv) c
theorem Vm.save {n : Nat} (h : Vm w p n B Sv c) (A : Option Addr) (nl k : Nat) (l : List Vl.Th) (hl : SS w A nl l) (hf : ∀ s ∈ l, Fits s ∧ s.dt.length ≤ 1000) (hn : nl ≤ 1000000) :
    Calls Tryz.prog 13 #[.pointer (some ⟨p, 0, none⟩), .slice A nl k] w (SmQ w p n B Sv c l) := by
  obtain ⟨m, x, X, bl, h1, rfl⟩ := h
  refine (h1.save A nl k l hl hf hn).mono ?_
  rintro e w' ⟨rfl, hc, h2 | h2⟩
  · refine ⟨rfl, hc, ?_⟩
    unfold Vl.svS
    rw [if_neg h2.1]
    exact h2.2.vm
  · obtain ⟨h0, m', X', st, hv, _⟩ := h2
    refine ⟨rfl, hc, ?_⟩
    unfold Vl.svS
    rw [if_pos h0]
    exact hv.vm
theorem VX.load (h : VX w p m x B X Sv bl c) (i : Nat) (hi : i < 24) : Calls Tryz.prog 20 #[.pointer (some ⟨p, 0, none⟩), .int .i64 (i : Int)] w fun e w' =>
    ∃ A k d, e = .returned (.tuple #[.agg (sc (Sv i) (.slice A k d)).toArray, .int .i64 0]) ∧ BS w' A k (Sv i).dt ∧ k ≤ 1000 ∧ Below w.heap.size w w' ∧ k ≤ d := by
  refine (load_any h.tq h.n1 h.n2 h.sm i hi).mono ?_
  rintro e w' ⟨A, k, d, rfl, h1, h2, h3, _, h5⟩
  obtain ⟨e1, e2⟩ := h.vol.load h.n2 hi
  rw [e2] at h1 ⊢
  rw [e1]
  exact ⟨A, k, d, rfl, h1, h2, h3, h5⟩
theorem Vm.load {n : Nat} (h : Vm w p n B Sv c) (i : Nat) (hi : i < 24) : Calls Tryz.prog 20 #[.pointer (some ⟨p, 0, none⟩), .int .i64 (i : Int)] w fun e w' =>
    ∃ A k d, e = .returned (.tuple #[.agg (sc (Sv i) (.slice A k d)).toArray, .int .i64 0]) ∧ BS w' A k (Sv i).dt ∧ k ≤ 1000 ∧ Below w.heap.size w w' ∧ k ≤ d := by
  obtain ⟨m, x, X, bl, h1, rfl⟩ := h
  exact h1.load i hi
theorem Vm.load24 {n : Nat} (h : Vm w p n B Sv c) : Calls Tryz.prog 20 #[.pointer (some ⟨p, 0, none⟩), .int .i64 24] w (fun e w' => e = .returned (.tuple #[.agg (sc Sl.zero (.slice none 0 0)).toArray, .int .i64 15]) ∧ Below w.heap.size w w') := by
  obtain ⟨m, x, X, bl, h1, _⟩ := h
  exact load_24 h1.tq h1.n1 h1.n2
theorem VX.free (h : VX w p m x B X Sv bl c) : Calls Tryz.prog 17 #[.pointer (some ⟨p, 0, none⟩)] w fun e w' => e = .returned (.int .i64 ((x.n - 35 - Vl.tot Sv : Nat) : Int)) ∧ Below w.heap.size w w' := by
  have := vfree_any h.tq h.n1 h.n2 (h.sm 9)
  rw [h.vol.free.1] at this
  exact this
theorem Vm.free {n : Nat} (h : Vm w p n B Sv c) : Calls Tryz.prog 17 #[.pointer (some ⟨p, 0, none⟩)] w fun e w' => e = .returned (.int .i64 ((n - 35 - Vl.tot Sv : Nat) : Int)) ∧ Below w.heap.size w w' := by
  obtain ⟨m, x, X, bl, h1, rfl⟩ := h
  exact h1.free
theorem VX.wrong (h : VX w p m x B X Sv bl c) (hn : x.n ≤ 135) : Calls Tryz.prog 15 #[.pointer (some ⟨p, 0, none⟩)] w fun e w' => e = .returned (.string ⟨#[]⟩) ∧ Below w.heap.size w w' := by
  refine (wrong_any h.tq h.n1 hn h.sm).mono ?_
  rintro e w' ⟨s, rfl, h1, _, h3⟩
  have hf := h.vol.fine h.n2 (by rw [h.ch]; exact (Vl.ch_enc c h.cn).1)
  rw [h1 hf]
  exact ⟨rfl, h3⟩
theorem Vm.wrong {n : Nat} (h : Vm w p n B Sv c) (hn : n ≤ 135) : Calls Tryz.prog 15 #[.pointer (some ⟨p, 0, none⟩)] w fun e w' => e = .returned (.string ⟨#[]⟩) ∧ Below w.heap.size w w' := by
  obtain ⟨m, x, X, bl, h1, rfl⟩ := h
  exact h1.wrong hn
theorem Vm.change {n : Nat} (h : Vm w p n B Sv c) : Calls Tryz.prog 19 #[.pointer (some ⟨p, 0, none⟩)] w fun e w' => e = .returned (.tuple #[.int .u64 (c : Int), .int .i64 0]) ∧ Below w.heap.size w w' := by
  obtain ⟨m, x, X, bl, h1, rfl⟩ := h
  have := change_vol h1.tq h1.n1 h1.n2 (h1.sm 10)
  rw [h1.ch, (Vl.ch_enc c h1.cn).1, (Vl.ch_enc c h1.cn).2] at this
  exact this
theorem Vm.setChange {n : Nat} (h : Vm w p n B Sv c) (v : Nat) (hv : v < 18446744073709551616) : Calls Tryz.prog 18 #[.pointer (some ⟨p, 0, none⟩), .int .u64 (v : Int)] w fun e w' => e = .returned (.int .i64 0) ∧ Below B w w' ∧ Vm w' p n B Sv v := by
  obtain ⟨m, x, X, bl, h1, rfl⟩ := h
  refine (setChange_any h1.tq h1.hS h1.n1 h1.n2 v hv).mono ?_
  rintro e w' ⟨rfl, ht, hc⟩
  refine ⟨rfl, hc.below h1.bn (fun k hk => by rw [hk]; exact h1.tq.sm), m, x, X.put 10 (Vl.encC v), bl, ⟨ht, ?_, fun i => ?_, by rw [TX.get_put, if_pos rfl], hv, h1.n1, h1.n2, Nat.le_trans h1.bn hc.size⟩, rfl⟩
  · refine h1.vol.congr ?_ fun j hj => ?_
    · rw [TX.get_put, if_neg (by decide)]
    · rw [TX.get_put, if_neg (by omega)]
  · rw [TX.get_put]
    split
    · have := Vl.encC_len v; omega
    · exact h1.sm i
theorem Vm.all {n : Nat} (h : Vm w p n B Sv c) : Calls Tryz.prog 14 #[.pointer (some ⟨p, 0, none⟩)] w fun e w' => ∃ A k, e = .returned (.tuple #[.slice A 24 k, .int .i64 0]) ∧ SS w' A 24 ((List.range 24).map Sv) ∧ Below w.heap.size w w' := by
  obtain ⟨m, x, X, bl, h1, rfl⟩ := h
  refine (all_vol h1.tq h1.n1 h1.n2 h1.sm).mono ?_
  rintro e w' ⟨A, k, l, rfl, h2, _, h4, h5⟩
  have he : Vl.allE Sl.dirB x.n X.get 24 = 0 := Vl.allE_zero fun i hi => (h1.vol.load h1.n2 hi).1
  have hl := h2 he
  have hl2 : l = (List.range 24).map Sv := by
    rw [hl]
    unfold Vl.lds
    refine List.map_congr_left fun i hi => ?_
    exact (h1.vol.load h1.n2 (List.mem_range.1 hi)).2
  have hlen : l.length = 24 := by rw [hl2]; simp
  rw [he]
  rw [hlen] at h4 ⊢
  rw [hl2] at h4
  exact ⟨A, k, rfl, h4, h5⟩
/-- A save to one volume leaves the other. -/
theorem Vm.other {q n' : Nat} {Sv' : Nat → Vl.Th} {c' n : Nat} (h : Vm w q n' B Sv' c') (hp : Vm w p n B Sv c) (hc : Ch (· = p) w w') (hne : q ≠ p) : Vm w' q n' B Sv' c' := by
  obtain ⟨m, x, X, bl, h1, rfl⟩ := h
  obtain ⟨m2, x2, X2, bl2, h2, rfl⟩ := hp
  refine ⟨m, x, X, bl, ⟨h1.tq.ch hc hne ?_, h1.vol, h1.sm, h1.ch, h1.cn, h1.n1, h1.n2, Nat.le_trans h1.bn hc.size⟩, rfl⟩
  rintro rfl
  have := h2.tq.cells
  obtain ⟨es, cl, h3, _⟩ := h1.tq.puts
  rw [h3] at this
  cases this
theorem SmQ.bel {n : Nat} {l : List Vl.Th} {e : Ending} (h : SmQ w p n B Sv c l e w') (hp : Vm w p n B Sv c) : Below B w w' := by
  obtain ⟨m, x, X, bl, h1, rfl⟩ := hp
  exact h.2.1.below h1.bn (fun k hk => by rw [hk]; exact h1.tq.sp)
end
end Go.Proofs.YtnhokkdieijkhaaGreatDoor

namespace Go.Proofs.YtnhokkdieijkhaaGreatDoor
open Go.RowKit Go.Shelf
attribute [local go_sem] Oper.semAt_some

theorem infos_u8 : (Tryz.prog.info? 5).map (fun i => (i.zero, i.size, i.bytes)) = some (some (.int .u8 0), 1, 1) := by kernel_rfl
theorem made_zeros (n : Nat) : madeCells (Value.int .u8 0).cells (n * 1) = (bc (List.replicate n 0)).toArray := by
  apply Array.ext'
  simp [madeCells, bc, Value.cells, Nat.mod_one]
  rw [List.eq_replicate_iff]
  simp
theorem run_make_bytes (w : World) (n : Nat) (hn : n ≤ 1000000) : (Instr.makeSlice 30 (.int .i64 (n : Int)) (.int .i64 (n : Int))).run Tryz.prog w = .ok (.slice (some ⟨w.heap.size, 0, none⟩) n n) (w.alloc (.cells (bc (List.replicate n 0)).toArray 5)) := by
  obtain ⟨i, hi, hz, hs, hb⟩ := info_parts infos_u8
  have hr := run_makeSlice (P := Tryz.prog) w 30 5 i (.int .u8 0) Tryz.underlying30 hi hz .i64 .i64 (n : Int) (n : Int) (by omega) (by omega) (by rw [hs]; simp; omega) (by rw [hb]; omega) (by omega)
  rw [hs, Int.toNat_natCast, made_zeros] at hr
  exact hr
theorem BS.made (w : World) (n : Nat) : BS (w.alloc (.cells (bc (List.replicate n 0)).toArray 5)) (some ⟨w.heap.size, 0, none⟩) n (List.replicate n 0) := by
  refine ⟨List.length_replicate, fun _ => ⟨w.heap.size, 0, rfl, fun j hj => ?_⟩⟩
  rw [Nat.zero_add, cell_of_row _ _ _ _ _ _ (heap_alloc_new w _)]
  have hj' : j < n := by simpa using hj
  simp [bc, hj']
/-- A slice of one slot. -/
theorem SS.one (w : World) (s : Vl.Th) (A : Option Addr) (n c : Nat) (h : BS w A n s.dt) (hc : n ≤ c) : SS (w.alloc (.cells (sc s (.slice A n c)).toArray 32)) (some ⟨w.heap.size, 0, none⟩) 1 [s] := by
  refine ⟨rfl, fun _ => ⟨w.heap.size, 0, rfl, fun k hk => ⟨⟨A, n, c⟩, fun j u hu => ?_, ?_, hc⟩⟩⟩
  · have hk0 : k = 0 := by simpa using hk
    subst hk0
    rw [cell_of_row _ _ _ _ _ _ (heap_alloc_new w _)]
    simpa using hu
  · have hk0 : k = 0 := by simpa using hk
    subst hk0
    exact h.alloc _
/-- A thing with one link. -/
def Vl.one (i chg : Nat) (d : List UInt8) : Vl.Th := ⟨i, 1, 0, 1, 0, chg, 0, 0, d⟩
theorem Vl.one_ok {i chg : Nat} {d : List UInt8} (hi : i < 24) (hd : d.length ≤ 768) : Sl.okS (Vl.one i chg d) = true := by
  have h1 : i ≤ 23 := by omega
  simp [Sl.okS, Vl.Th.okB, Vl.one, h1, hd]
theorem Vl.one_fits {i chg : Nat} {d : List UInt8} (hi : i < 24) (hc : chg < 18446744073709551616) : Fits (Vl.one i chg d) := ⟨by show i < _; omega, by show (1 : Nat) < _; omega, ⟨by show (0 : Nat) < _; omega, by show (1 : Nat) < _; omega, by show (0 : Nat) < _; omega, hc, by show (0 : Nat) < _; omega, by show (0 : Nat) < _; omega⟩⟩
theorem Vl.svE_one {n : Nat} {s : Vl.Th} {S : Nat → Vl.Th} (h : Sl.okS s = true) : Vl.svE Sl.dirB n [s] S = if Vl.tot (Vl.upd S s.ino s) ≤ n - 35 then 0 else 66 := by
  have hm : Vl.mayB Sl.dirB [s] = true := by
    unfold Vl.mayB
    rw [List.all_cons, show Vl.Th.okB Sl.dirB s = true from h]
    simp
  unfold Vl.svE
  rw [if_pos hm]
  rfl
theorem Vl.tot_upd (S : Nat → Vl.Th) (s : Vl.Th) (h : s.ino < 24) : Vl.tot (Vl.upd S s.ino s) + need (S s.ino).dt.length = Vl.tot S + need s.dt.length := by
  have := Vl.sum24_upd (fun i => need (S i).dt.length) (need s.dt.length) h
  have h2 : Vl.tot (Vl.upd S s.ino s) = Vl.sum24 (Vl.upd (fun i => need (S i).dt.length) s.ino (need s.dt.length)) := by
    unfold Vl.tot
    refine Vl.sum24_congr fun i _ => ?_
    unfold Vl.upd
    split <;> rfl
  rw [h2]
  exact this
theorem Vl.setS_one (S : Nat → Vl.Th) (s : Vl.Th) : Vl.setS [s] S = Vl.upd S s.ino s := rfl
theorem Vl.need_bare (i : Nat) : need (Vl.bare i).dt.length = 0 := by show need 0 = 0; decide
theorem TX.fresh_get (N : Nat) : (TX.new (List.replicate N [])).get = fun _ => [] := by
  funext i
  show ((List.replicate N ([] : List UInt8)).getD i []) = []
  rw [List.getD_eq_getElem?_getD, List.getElem?_replicate]
  split <;> rfl
theorem str_some {s : ByteArray} (h : 0 < s.size) : s.toList.isEmpty = false := by
  rw [Lib.toList_data]
  cases e : s.data.toList with
  | nil =>
    have : s.data.size = 0 := by rw [← Array.length_toList, e]; rfl
    have h2 : s.size = s.data.size := rfl
    omega
  | cons a b => rfl
theorem RI.none (w : World) : RI w none 0 [] := ⟨rfl, fun h => absurd h (by omega)⟩
set_option maxRecDepth 100000 in
theorem ex_save : ((Vl.save 45 [Vl.one 2 0 (List.replicate 97 0)] (fun _ => []) Vl.bare (fun _ => [])).map fun st => (Vl.upd st.B 9 st.T 35).length) = some 96 := by decide +kernel
set_option maxRecDepth 100000 in
set_option maxHeartbeats 2000000 in
theorem awake_any (w : World) : Calls Tryz.prog 9 #[] w fun e w' => e = .returned (.bool true) ∧ Below w.heap.size w w' := by
  have hmk : ∀ W : World, (Instr.makeSlice 26 (.int .i64 45) (.int .i64 45)).run Tryz.prog W = .ok (.slice (some ⟨W.heap.size, 0, none⟩) 45 45) (W.alloc (.cells (Array.replicate 45 (.slice none 0 0)) 30)) := fun W => run_make_rows W 45 (by omega)
  obtain ⟨Z, hZ⟩ : ∃ Z, Z = List.replicate 97 (0 : UInt8) := ⟨_, rfl⟩
  have hmb : ∀ W : World, (Instr.makeSlice 30 (.int .i64 97) (.int .i64 97)).run Tryz.prog W = .ok (.slice (some ⟨W.heap.size, 0, none⟩) 97 97) (W.alloc (.cells (bc Z).toArray 5)) := fun W => by rw [hZ]; exact run_make_bytes W 97 (by omega)
  have HZ := Lib.hid hZ
  clear hZ
  go_enter Tryz.func9, Tryz.ntmps9
  go_wp2_with fail
  refine (new_fresh (B := w.heap.size) 45 _ 45 _ (RI.made w 45) (by omega) (by omega) (by simp)).mono ?_
  rintro e w1 ⟨p, m, g, rfl, hv, hw1, hp⟩
  have HV := Lib.hid hv
  have HW1 : Hid (Below w.heap.size w w1) := ((Below.refl _ _).alloc (Nat.le_refl _) _).trans (hw1.mono (by simp))
  clear hv hw1
  go_wp2_with fail
  have HZB : Hid (BS (w1.alloc (.cells (bc Z).toArray 5)) (some ⟨w1.heap.size, 0, none⟩) 97 (Vl.one 2 0 Z).dt) := by
    show BS _ _ _ Z
    rw [HZ.out]
    exact BS.made w1 97
  have hzl : Z.length = 97 := by rw [HZ.out]; simp
  have HOK : Hid (Sl.okS (Vl.one 2 0 Z) = true) := Vl.one_ok (by omega) (by omega)
  have HTOT : Hid (Vl.tot (Vl.setS [Vl.one 2 0 Z] Vl.bare) = 2) := by
    have h1 := Vl.tot_upd Vl.bare (Vl.one 2 0 Z) (by show 2 < 24; omega)
    rw [Vl.tot_none, show need (Vl.one 2 0 Z).dt.length = 2 from (by show need Z.length = 2; rw [hzl]; rfl), Vl.need_bare] at h1
    show _ = _
    rw [Vl.setS_one]
    omega
  have HE : Hid (Vl.svE Sl.dirB 45 [Vl.one 2 0 Z] Vl.bare = 0) := by
    show _ = _
    rw [Vl.svE_one HOK.out, if_pos]
    rw [← Vl.setS_one, HTOT.out]
    omega
  have HF : Hid (∀ s ∈ [Vl.one 2 0 Z], Fits s ∧ s.dt.length ≤ 1000) := fun s hs => by
    obtain rfl := List.mem_singleton.1 hs
    exact ⟨Vl.one_fits (by omega) (by omega), by show Z.length ≤ 1000; omega⟩
  have hss := SS.one _ (Vl.one 2 0 Z) _ 97 97 HZB.out (by omega)
  rw [World.size_alloc] at hss
  have HSS : Hid (SS ((w1.alloc (.cells (bc Z).toArray 5)).alloc (.cells #[.int .u32 2, .int .u32 1, .int .u32 0, .int .u32 1, .int .u32 0, .int .u64 0, .int .u64 0, .int .u64 0, .slice (some ⟨w1.heap.size, 0, none⟩) 97 97] 32)) (some ⟨w1.heap.size + 1, 0, none⟩) 1 [Vl.one 2 0 Z]) := hss
  have HBL : Hid (Below w1.heap.size w1 ((w1.alloc (.cells (bc Z).toArray 5)).alloc (.cells #[.int .u32 2, .int .u32 1, .int .u32 0, .int .u32 1, .int .u32 0, .int .u64 0, .int .u64 0, .int .u64 0, .slice (some ⟨w1.heap.size, 0, none⟩) 97 97] 32))) := ((Below.refl _ _).alloc (Nat.le_refl _) _).alloc (by simp) _
  clear hss
  generalize ((w1.alloc (.cells (bc Z).toArray 5)).alloc (.cells #[.int .u32 2, .int .u32 1, .int .u32 0, .int .u32 1, .int .u32 0, .int .u64 0, .int .u64 0, .int .u64 0, .slice (some ⟨w1.heap.size, 0, none⟩) 97 97] 32)) = W2 at *
  have HV1 := Lib.hid (HV.out.below HBL.out)
  have HSV := Lib.hid (HV1.out.save (some ⟨w1.heap.size + 1, 0, none⟩) 1 1 [Vl.one 2 0 Z] HSS.out HF.out (by omega))
  have HPB : Hid (w.heap.size + 1 ≤ p) := by
    have := hp
    simp only [World.size_alloc] at this
    exact this
  refine HSV.out.mono ?_
  rintro e w2 ⟨rfl, hc, h1 | h1⟩
  · exact absurd HE.out h1.1
  obtain ⟨-, m2, X2, st, hv2, hs2, hg2⟩ := h1
  rw [TX.fresh_get, HZ.out] at hs2
  have h35 : (X2.get 35).length = 96 := by
    have := ex_save
    rw [hs2] at this
    rw [hg2]
    exact Option.some.inj this
  have HV2 := Lib.hid hv2
  have H35 := Lib.hid h35
  have HW2 : Hid (Below w.heap.size w w2) := (HW1.out.trans (HBL.out.mono HW1.out.size)).trans (hc.below (B := w.heap.size) (Nat.le_trans HW1.out.size HBL.out.size) (fun k hk => by rw [hk]; have := HPB.out; omega))
  rw [show Vl.svE Sl.dirB (⟨g, 45, 45⟩ : Sl).n [Vl.one 2 0 Z] Vl.bare = 0 from HE.out]
  clear hc hv2 hs2 hg2 h35 hmk hmb HZB HF HE
  go_wp2_with fail
  have e2 : Vl.setS [Vl.one 2 0 Z] Vl.bare 2 = Vl.one 2 0 Z := Vl.upd_same Vl.bare 2 (Vl.one 2 0 Z)
  have hld := HV2.out.load 2 (by omega)
  rw [e2] at hld
  refine hld.mono ?_
  rintro e w3 ⟨A3, k3, d3, rfl, hb3, -, hw3, -⟩
  have hk97 : k3 = 97 := by have := hb3.1; rw [← this]; exact hzl
  subst hk97
  have HV3 := Lib.hid (HV2.out.below hw3)
  have HW3 := Lib.hid (HW2.out.trans (hw3.mono HW2.out.size))
  clear hld e2 hb3 hw3 HV2 HW2
  go_upto_region 4 with (first
    | (refine wpList_alloc_any rfl 32 rfl _ zero_Sl ?_; intro w4 hb4 hs4 hw4)
    | (refine wpList_store_part rfl 32 (.tmp 3) (.tmp 15) rfl _ 0 (sc (Vl.one 2 0 Z) (.slice A3 97 d3)) rfl rfl 32 (sc Sl.zero (.slice none 0 0)) hb4 size_Sl (by simp [sc]) (sc_row _ _ _ _) ?_
       intro w5 hb5 hs5 hk5))
  have HB5 : Hid (Bw w5 w3.heap.size (sc (Vl.one 2 0 Z) (.slice A3 97 d3)) 32) := hb5
  have hbw : Below w3.heap.size w3 w5 := hw4.trans (hk5.below2 (fun k hk => by omega))
  have HV5 := Lib.hid (HV3.out.below hbw)
  have HW5 := Lib.hid (HW3.out.trans (hbw.mono HW3.out.size))
  have hfree := HV5.out.free
  rw [HTOT.out] at hfree
  have HFR : Hid (Calls Tryz.prog 17 #[.pointer (some ⟨p, 0, none⟩)] w5 fun e w' => e = .returned (.int .i64 8) ∧ Below w5.heap.size w5 w') := hfree
  clear hb4 hs4 hw4 hb5 hs5 hk5 hbw HV3 HW3 hfree
  go_wp2_with fail
  refine HFR.out.mono ?_
  rintro e w6 ⟨rfl, hw6⟩
  have HB6 := Lib.hid (HB5.out.below hw6)
  have HV6 := Lib.hid (HV5.out.below hw6)
  have HW6 := Lib.hid (HW5.out.trans (hw6.mono HW5.out.size))
  have k68 : w6.cell? ⟨w3.heap.size, 8, none⟩ = some (.slice A3 97 d3) := HB6.out.cell 8 _ rfl
  have k63 : w6.cell? ⟨w3.heap.size, 3, none⟩ = some (.int .u32 1) := HB6.out.cell 3 _ rfl
  clear hw6 HB5 HV5 HW5 HFR
  go_wp2_with fail
  refine (HV6.out.wrong (by show 45 ≤ 135; omega)).mono ?_
  rintro e w7 ⟨rfl, hw7⟩
  have HV7 := Lib.hid (HV6.out.below hw7)
  have HW7 := Lib.hid (HW6.out.trans (hw7.mono HW6.out.size))
  clear hw7 HV6 HW6 HB6 k68 k63
  go_wp2_with fail
  refine (get_ok HV7.out.tq 35 (by show 35 < 45; omega)).mono ?_
  rintro e w8 ⟨A8, k8, c8, rfl, hb8, -, -, -, hw8, -⟩
  have hk96 : k8 = 96 := by have := hb8.1; rw [← this]; exact H35.out
  subst hk96
  have HV8 := Lib.hid (HV7.out.below hw8).vm
  have HW8 := Lib.hid (HW7.out.trans (hw8.mono HW7.out.size))
  clear hb8 hw8 HV7 HW7
  go_wp2_with fail
  refine (HV8.out.setChange 5 (by omega)).mono ?_
  rintro e w9 ⟨rfl, hw9, -⟩
  have HW9 := Lib.hid (HW8.out.trans hw9)
  clear hw9 HV8 HW8
  go_wp2_with fail
  refine (new_any none 0 0 [] w9 (RI.none w9) (by omega)).mono ?_
  rintro e w10 ⟨g2, m3, p3, rfl, ht, hw10, -, -⟩
  have HT10 := Lib.hid ht
  have HW10 := Lib.hid (HW9.out.trans (hw10.mono HW9.out.size))
  clear ht hw10 HW9
  go_wp2_with fail
  refine (wrong_few HT10.out (by show 0 < 36; omega)).mono ?_
  rintro e w11 ⟨sx, rfl, -, hsx, hw11⟩
  have HSX := Lib.hid (hsx rfl)
  have HW11 := Lib.hid (HW10.out.trans (hw11.mono HW10.out.size))
  clear hsx hw11
  have HSE : Hid (sx.toList.isEmpty = false) := str_some HSX.out
  go_wp2_with fail
  go_ret
  rw [HSE.out]
  exact ⟨rfl, HW11.out⟩
end Go.Proofs.YtnhokkdieijkhaaGreatDoor
