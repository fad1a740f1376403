/-
  What RepliesKeeps keeps (layer 14): replies as they came in; a row of replies and one of bools beside transactions.
-/
import Derived.Test.YtjgmboleiaehaaaYQ6
namespace Go.Proofs.Ytjgmboleiaehaaa
open Go.ChangeShapes Go.WideShapes Go.ChangeAt Go.RowKit Go.Shelf

/-- A reply at a place, as it came in. -/
structure RAt (W : World) (b o : Nat) (r : Rp) (A : Option Addr) (n c : Nat) (B : Option Addr) (k d : Nat) : Prop where
  cells : ∀ i v, (rc r (.slice A n c) (.slice B k d))[i]? = some v → W.cell? ⟨b, o + i, none⟩ = some v
  data : BS W A n r.dt
  ent : ES W B k r.es
  wide : r.Wide
theorem RAt.below {W W' : World} {b o : Nat} {r : Rp} {A : Option Addr} {n c : Nat} {B : Option Addr} {k d : Nat} (h : RAt W b o r A n c B k d) (hb : Below W.heap.size W W') : RAt W' b o r A n c B k d :=
  ⟨fun i v hv => (Below.cell hb (p := ⟨b, o + i, none⟩) (World.block_lt_of_cell? _ _ (h.cells i v hv))).trans (h.cells i v hv), h.data.below hb, h.ent.below hb, h.wide⟩
/-- Replies, as they came in. -/
def RPS (W : World) (A : Option Addr) (n : Nat) : Prop :=
  0 < n → ∃ b o, A = some ⟨b, o, none⟩ ∧ ∀ j, j < n → ∃ r A n c B k d, RAt W b (o + j * 15) r A n c B k d
set_option maxRecDepth 100000 in
theorem reply_cs {H : Type} {enc : TypeId × Value → H} {W : World} {fuel : Nat} {v0 v1 v2 v3 v4 v5 v6 v7 v8 v9 v10 v11 v12 v13 v14 : Value} {d : DataW H} {p : List MemPlace} (ht : DataW.trod enc Try.prog W 0 (fun _ => true) true fuel 41 [v0, v1, v2, v3, v4, v5, v6, v7, v8, v9, v10, v11, v12, v13, v14] = some (d, p)) :
    ∃ r A n cp B m cq, [v0, v1, v2, v3, v4, v5, v6, v7, v8, v9, v10, v11, v12, v13, v14] = rc r (.slice A n cp) (.slice B m cq) ∧ BS W A n r.dt ∧ ES W B m r.es ∧ r.Wide := by
  obtain ⟨ys, n', _, _, _, hyl, hg⟩ := DataW.trod_struct Try.underlying41 ht
  have k0 : DataW.trod enc Try.prog W 0 (fun _ => true) true n' 31 [v0] = ys[0]? := hg 0 _ rfl
  have k1 : DataW.trod enc Try.prog W 0 (fun _ => true) true n' 31 [v1] = ys[1]? := hg 1 _ rfl
  have k2 : DataW.trod enc Try.prog W 0 (fun _ => true) true n' 32 [v2] = ys[2]? := hg 2 _ rfl
  have k3 : DataW.trod enc Try.prog W 0 (fun _ => true) true n' 34 [v3, v4] = ys[3]? := hg 3 _ rfl
  have k4 : DataW.trod enc Try.prog W 0 (fun _ => true) true n' 37 [v5, v6, v7, v8, v9] = ys[4]? := hg 4 _ rfl
  have k5 : DataW.trod enc Try.prog W 0 (fun _ => true) true n' 38 [v10] = ys[5]? := hg 5 _ rfl
  have k6 : DataW.trod enc Try.prog W 0 (fun _ => true) true n' 39 [v11] = ys[6]? := hg 6 _ rfl
  have k7 : DataW.trod enc Try.prog W 0 (fun _ => true) true n' 4 [v12] = ys[7]? := hg 7 _ rfl
  have k8 : DataW.trod enc Try.prog W 0 (fun _ => true) true n' 35 [v13] = ys[8]? := hg 8 _ rfl
  have k9 : DataW.trod enc Try.prog W 0 (fun _ => true) true n' 31 [v14] = ys[9]? := hg 9 _ rfl
  have hys : ys.length = 10 := hyl
  obtain ⟨y0, e0⟩ : ∃ y, ys[0]? = some y := ⟨_, List.getElem?_eq_getElem (by omega)⟩
  obtain ⟨y1, e1⟩ : ∃ y, ys[1]? = some y := ⟨_, List.getElem?_eq_getElem (by omega)⟩
  obtain ⟨y2, e2⟩ : ∃ y, ys[2]? = some y := ⟨_, List.getElem?_eq_getElem (by omega)⟩
  obtain ⟨y3, e3⟩ : ∃ y, ys[3]? = some y := ⟨_, List.getElem?_eq_getElem (by omega)⟩
  obtain ⟨y4, e4⟩ : ∃ y, ys[4]? = some y := ⟨_, List.getElem?_eq_getElem (by omega)⟩
  obtain ⟨y5, e5⟩ : ∃ y, ys[5]? = some y := ⟨_, List.getElem?_eq_getElem (by omega)⟩
  obtain ⟨y6, e6⟩ : ∃ y, ys[6]? = some y := ⟨_, List.getElem?_eq_getElem (by omega)⟩
  obtain ⟨y7, e7⟩ : ∃ y, ys[7]? = some y := ⟨_, List.getElem?_eq_getElem (by omega)⟩
  obtain ⟨y8, e8⟩ : ∃ y, ys[8]? = some y := ⟨_, List.getElem?_eq_getElem (by omega)⟩
  obtain ⟨y9, e9⟩ : ∃ y, ys[9]? = some y := ⟨_, List.getElem?_eq_getElem (by omega)⟩
  obtain ⟨a0, rfl, b0⟩ := u32_cell Try.underlying31 (k0.trans e0)
  obtain ⟨a1, rfl, b1⟩ := u32_cell Try.underlying31 (k1.trans e1)
  obtain ⟨a2, rfl, b2⟩ := i64_cell Try.underlying32 (k2.trans e2)
  obtain ⟨a3, a4, s3, b3, b3'⟩ := hdl_cells (k3.trans e3)
  simp only [hc, List.cons.injEq, and_true] at s3
  obtain ⟨rfl, rfl⟩ := s3
  obtain ⟨a5, a6, a7, a8, a9, s4, b4, b4', b4'', b4''', b4''''⟩ := att_cells (k4.trans e4)
  simp only [ac, List.cons.injEq, and_true] at s4
  obtain ⟨rfl, rfl, rfl, rfl, rfl⟩ := s4
  obtain ⟨A, n, cp, l10, rfl, hbs, hbn⟩ := bytes_cell (k5.trans e5)
  obtain ⟨B, mm, cq, es, rfl, hei⟩ := entries_cell (k6.trans e6)
  obtain ⟨x12, rfl⟩ := bool_cell Try.underlying4 (k7.trans e7)
  obtain ⟨a13, rfl, b8⟩ := u64_cell Try.underlying35 (k8.trans e8)
  obtain ⟨a14, rfl, b9⟩ := u32_cell Try.underlying31 (k9.trans e9)
  exact ⟨⟨a0, a1, a2, a3, a4, a5, a6, a7, a8, a9, l10, es, x12, a13, a14⟩, A, n, cp, B, mm, cq, rfl, hbs, hei.row, ⟨b0, b1, b3, b3', b4, b4', b4'', b4''', b4'''', b8, b9, hei.wide⟩⟩
set_option maxRecDepth 100000 in
theorem replies_in {H : Type} {enc : TypeId × Value → H} {W : World} {A : Option Addr} {n cap : Nat} {d : DataW H} {p : List MemPlace} (h : DataW.Trod enc Try.prog W 0 (fun _ => true) true 71 (.slice A n cap) d p) : RPS W A n := by
  obtain ⟨fuel, hf⟩ := h
  rcases Go.Deep.open_slice (e := 41) Try.underlying71 hf with ⟨hcs, _⟩ | ⟨a, len, c, m, n', D, Pl, hcs, _, hl, hm, hmm, _, hi⟩
  · simp [Value.cells] at hcs
    obtain ⟨rfl, rfl, rfl⟩ := hcs
    exact fun h => absurd h (Nat.lt_irrefl _)
  · simp [Value.cells] at hcs
    obtain ⟨rfl, rfl, rfl⟩ := hcs
    simp only [if_true] at hmm
    subst hmm
    have h15 : Try.prog.cellsOf 41 = 15 := by kernel_rfl
    rw [h15] at hi
    intro hn
    have main : ∀ j, j < n → ∃ r A n c B k d, (∀ i v, (rc r (.slice A n c) (.slice B k d))[i]? = some v → W.cell? (a.add (j * 15 + i)) = some v) ∧ BS W A n r.dt ∧ ES W B k r.es ∧ r.Wide := fun j hj => by
      obtain ⟨cs', hc, ht⟩ := hi j (by omega)
      obtain ⟨_, hlen, hat⟩ := World.cells?_some hc
      obtain ⟨v0, v1, v2, v3, v4, v5, v6, v7, v8, v9, v10, v11, v12, v13, v14, rfl⟩ := at15 hlen
      obtain ⟨r, A, n, c, B, k, d, he, h1, h2, h3⟩ := reply_cs ht
      rw [he] at hat
      refine ⟨r, A, n, c, B, k, d, fun i v hv => ?_, h1, h2, h3⟩
      have hlt := (List.getElem?_eq_some_iff.1 hv).1
      have := hat i (by simp only [rc, List.length_cons, List.length_nil] at hlt; omega)
      rw [Go.Deep.add_add] at this
      rw [this]
      exact hv
    obtain ⟨b, o, sp⟩ := a
    obtain ⟨r, A, n0, c0, B, k, d, h0, _⟩ := main 0 hn
    have h00 := h0 0 _ rfl
    have hs : sp = none := by simpa [Addr.add] using World.cell?_spot h00
    subst hs
    refine ⟨b, o, rfl, fun j hj => ?_⟩
    obtain ⟨r, A, n, c, B, k, d, h0, h1, h2, h3⟩ := main j hj
    refine ⟨r, A, n, c, B, k, d, fun i v hv => ?_, h1, h2, h3⟩
    have := h0 i v hv
    rw [add_plain] at this
    rw [Nat.add_assoc]
    exact this
/-- A block that is a row of another kind, without a byte. -/
structure Odd (w : World) (g : Nat) (cs : List Value) (t : TypeId) : Prop where
  row : Bw w g cs t
  ty : t ≠ 82 ∧ t ≠ 38
  no : ∀ v ∈ cs, ∀ z, v ≠ .int .u8 z
section
variable {w w' : World} {g : Nat} {cs : List Value} {t : TypeId}
theorem Odd.bs (h : Odd w g cs t) {A : Option Addr} {n : Nat} {l : List UInt8} (hb : BS w A n l) (hk : Keep (· ≠ g) w w') : BS w' A n l :=
  ⟨hb.1, fun hn => by
    obtain ⟨b, o, e, hcell⟩ := hb.2 hn
    refine ⟨b, o, e, fun j hj => ?_⟩
    rw [← hcell j hj]
    refine World.cell?_of_block (hk.block b ?_)
    rintro rfl
    have h1 := hcell j hj
    rw [cell_of_row _ _ _ _ _ _ h.row] at h1
    exact h.no _ (List.mem_of_getElem? (by simpa using h1)) _ rfl⟩
theorem Odd.below (h : Odd w g cs t) (hb : Below w.heap.size w w') : Odd w' g cs t := ⟨h.row.below hb, h.ty, h.no⟩
theorem Odd.keep (h : Odd w g cs t) {q : Nat} (hk : Keep (· ≠ q) w w') (hq : g ≠ q) : Odd w' g cs t := ⟨h.row.keep hk hq, h.ty, h.no⟩
theorem Odd.ch (h : Odd w g cs t) {q : Nat} (hc : Ch (· = q) w w') (hq : g ≠ q) : Odd w' g cs t := ⟨(hc.1.block g ⟨h.row.lt, hq⟩).trans h.row, h.ty, h.no⟩
variable {p m : Nat} {x : Sl} {S : Nat → Prop} {X : TX}
theorem Tq.odd (h : Tq w p m x S X) (ho : Odd w g cs t) (hk : Keep (· ≠ g) w w') : Tq w' p m x S X := by
  have hp : p ≠ g := by
    rintro rfl
    have h1 := h.cells.symm.trans ho.row
    simp only [Option.some.injEq, Obj.cells.injEq] at h1
    exact ho.ty.1 h1.2.1.symm
  have hm : m ≠ g := by
    rintro rfl
    obtain ⟨es, c, h1, _⟩ := h.puts
    have h2 := h1.symm.trans ho.row
    cases h2
  refine ⟨(hk.block p hp).trans h.cells, h.rows.imp (fun _ h => h) (fun q cs' _ hg => hk.block q ?_) (fun _ _ hb => ⟨ho.bs hb.bs hk, hb.few, hb.cap, hb.own⟩), h.puts.imp (hk.block m hm) (fun _ _ hb => ⟨ho.bs hb.bs hk, hb.few, hb.cap, hb.own⟩), h.sp, h.sm⟩
  rintro rfl
  have h1 := hg.symm.trans ho.row
  simp only [Option.some.injEq, Obj.cells.injEq] at h1
  exact ho.ty.2 h1.2.1.symm
theorem TK.odd {w0 : World} (h : TK w0 p m x X w) (ho : Odd w g cs t) (hk : Keep (· ≠ g) w w') (hg : w0.heap.size ≤ g) : TK w0 p m x X w' := ⟨h.tq.odd ho hk, h.bel.trans (hk.below2 fun k hk => by omega)⟩
theorem TK.off {w0 : World} (h : TK w0 p m x X w) {q : Nat} (hc : Ch (· = q) w w') (h1 : p ≠ q) (h2 : m ≠ q) (hq : w0.heap.size ≤ q) : TK w0 p m x X w' := ⟨h.tq.ch hc h1 h2, h.bel.trans (hc.below h.bel.size fun k hk => by omega)⟩
end
theorem get_part {α : Type} (L vs : List α) (n k i : Nat) (hn : vs.length = n) (hk : k + n ≤ L.length) : (L.take k ++ vs ++ L.drop (k + n))[i]? = if k ≤ i ∧ i < k + n then vs[i - k]? else L[i]? := by
  subst hn
  have hl : (L.take k).length = k := by simp; omega
  by_cases h1 : i < k
  · rw [if_neg (by omega), List.append_assoc, List.getElem?_append_left (by omega), List.getElem?_take_of_lt h1]
  by_cases h2 : i < k + vs.length
  · rw [if_pos ⟨by omega, h2⟩, List.append_assoc, List.getElem?_append_right (by omega), List.getElem?_append_left (by omega), hl]
  · rw [if_neg (by omega), List.getElem?_append_right (by simp; omega), List.getElem?_drop]
    congr 1
    simp only [List.length_append, hl]
    omega
/-- The last reply of each client, with one more. -/
def lastK (K : Nat → Option Rp) (r : Rp) : Nat → Option Rp := fun c => if c = r.cli then some r else K c
/-- A row of eight replies, those told last in their places. -/
def LS (W : World) (g : Nat) (K : Nat → Option Rp) : Prop :=
  ∃ L : List Value, Odd W g L 50 ∧ L.length = 120 ∧ ∀ c, c < 8 → ∀ r, K c = some r → ∃ E ce, ∀ i, i < 15 → L[c * 15 + i]? = (rc r (.string (txt [])) (.slice E 0 ce))[i]?
def hasL (K : Nat → Option Rp) : List Value := (List.range 8).map fun c => .bool (K c).isSome
/-- A row of eight bools: who was told. -/
def HS (W : World) (g : Nat) (K : Nat → Option Rp) : Prop := Odd W g (hasL K) 4
section
variable {W W' : World} {g : Nat} {K : Nat → Option Rp}
theorem LS.below (h : LS W g K) (hb : Below W.heap.size W W') : LS W' g K := h.imp fun _ h => ⟨h.1.below hb, h.2⟩
theorem LS.ch (h : LS W g K) {q : Nat} (hc : Ch (· = q) W W') (hq : g ≠ q) : LS W' g K := h.imp fun _ h => ⟨h.1.ch hc hq, h.2⟩
theorem LS.keep (h : LS W g K) {q : Nat} (hc : Keep (· ≠ q) W W') (hq : g ≠ q) : LS W' g K := h.imp fun _ h => ⟨h.1.keep hc hq, h.2⟩
theorem HS.below (h : HS W g K) (hb : Below W.heap.size W W') : HS W' g K := Odd.below h hb
theorem HS.ch (h : HS W g K) {q : Nat} (hc : Ch (· = q) W W') (hq : g ≠ q) : HS W' g K := Odd.ch h hc hq
theorem HS.keep (h : HS W g K) {q : Nat} (hc : Keep (· ≠ q) W W') (hq : g ≠ q) : HS W' g K := Odd.keep h hc hq
theorem rc_no8 (r : Rp) (s : ByteArray) (B : Option Addr) (m c : Nat) : ∀ v ∈ rc r (.string s) (.slice B m c), ∀ z, v ≠ .int .u8 z := by
  intro v hv
  simp only [rc, List.mem_cons, List.not_mem_nil, or_false] at hv
  rcases hv with rfl | rfl | rfl | rfl | rfl | rfl | rfl | rfl | rfl | rfl | rfl | rfl | rfl | rfl | rfl <;> intro z h <;> cases h
theorem rc_len (r : Rp) (a b : Value) : (rc r a b).length = 15 := rfl
/-- A reply laid in its place. -/
theorem LS.store (h : LS W g K) (r : Rp) (hr : r.cli < 8) (E : Option Addr) (ce : Nat) : ∃ L, Odd W g L 50 ∧ L.length = 120 ∧ ∀ W', Bw W' g (L.take (r.cli * 15) ++ rc r (.string (txt [])) (.slice E 0 ce) ++ L.drop (r.cli * 15 + 15)) 50 → LS W' g (lastK K r) := by
  obtain ⟨L, h1, h2, h3⟩ := h
  refine ⟨L, h1, h2, fun W' hb => ⟨_, ⟨hb, h1.ty, fun v hv => ?_⟩, ?_, fun c hc r' hr' => ?_⟩⟩
  · rcases List.mem_append.1 hv with hv | hv
    · rcases List.mem_append.1 hv with hv | hv
      · exact h1.no v (List.mem_of_mem_take hv)
      · exact rc_no8 _ _ _ _ _ v hv
    · exact h1.no v (List.mem_of_mem_drop hv)
  · simp only [List.length_append, List.length_take, List.length_drop, rc_len]
    omega
  · have hp := fun i => get_part L (rc r (.string (txt [])) (.slice E 0 ce)) 15 (r.cli * 15) i rfl (by omega)
    unfold lastK at hr'
    by_cases e : c = r.cli
    · rw [if_pos e] at hr'
      obtain rfl := Option.some.inj hr'
      refine ⟨E, ce, fun i hi => ?_⟩
      rw [hp, e, if_pos (by omega), show r.cli * 15 + i - r.cli * 15 = i by omega]
    · rw [if_neg e] at hr'
      obtain ⟨F, cf, h4⟩ := h3 c hc r' hr'
      refine ⟨F, cf, fun i hi => ?_⟩
      rw [hp, if_neg (by omega)]
      exact h4 i hi
/-- A client's mark laid. -/
theorem HS.store (h : HS W g K) (r : Rp) (hr : r.cli < 8) (hb : Bw W' g ((hasL K).take r.cli ++ [.bool true] ++ (hasL K).drop (r.cli + 1)) 4) : HS W' g (lastK K r) := by
  have e : (hasL K).take r.cli ++ [.bool true] ++ (hasL K).drop (r.cli + 1) = hasL (lastK K r) := by
    apply List.ext_getElem?
    intro i
    have hp := get_part (hasL K) [.bool true] 1 r.cli i rfl (by simp [hasL]; omega)
    rw [hp]
    unfold hasL lastK
    by_cases e : i = r.cli
    · rw [if_pos (by omega)]
      simp [e, hr]
    · rw [if_neg (by omega)]
      by_cases h8 : i < 8
      · simp [h8, e]
      · simp [h8]
  rw [e] at hb
  exact ⟨hb, Odd.ty h, fun v hv z => by
    simp only [hasL, List.mem_map] at hv
    obtain ⟨c, _, rfl⟩ := hv
    intro h; cases h⟩
theorem HS.at (h : HS W g K) (c : Nat) (hc : c < 8) : W.cell? ⟨g, c, none⟩ = some (.bool (K c).isSome) := by
  rw [cell_of_row _ _ _ _ _ _ (Odd.row h)]
  simp [hasL, hc]
theorem LS.at (h : LS W g K) (c : Nat) (hc : c < 8) (r : Rp) (hr : K c = some r) : ∃ L E ce, Bw W g L 50 ∧ ∀ j u, (rc r (.string (txt [])) (.slice E 0 ce))[j]? = some u → L[c * 15 + j]? = some u := by
  obtain ⟨L, h1, _, h3⟩ := h
  obtain ⟨E, ce, h4⟩ := h3 c hc r hr
  refine ⟨L, E, ce, h1.row, fun j u hu => ?_⟩
  have hj := (List.getElem?_eq_some_iff.1 hu).1
  rw [rc_len] at hj
  exact (h4 j hj).trans hu
end
theorem info_R9 : (Try.prog.info? 50).map (fun i => (i.zero, i.size, i.bytes)) = some (some (.agg (rc Rp.zero (.string (txt [])) (.slice none 0 0)).toArray), 15, 112) := by kernel_rfl
theorem info_B : (Try.prog.info? 4).map (fun i => (i.zero, i.size, i.bytes)) = some (some (.bool false), 1, 1) := by kernel_rfl
def zeroL : List Value := (List.replicate 8 (rc Rp.zero (.string (txt [])) (.slice none 0 0))).flatten
theorem made_R9 : madeCells (Value.agg (rc Rp.zero (.string (txt [])) (.slice none 0 0)).toArray).cells (Int.toNat 8 * 15) = zeroL.toArray := by kernel_rfl
theorem made_B : madeCells (Value.bool false).cells (Int.toNat 8 * 1) = (hasL fun _ => none).toArray := by kernel_rfl
theorem run_make_R9 (w : World) : (Instr.makeSlice 72 (.int .i64 8) (.int .i64 8)).run Try.prog w = .ok (.slice (some ⟨w.heap.size, 0, none⟩) 8 8) (w.alloc (.cells zeroL.toArray 50)) := by
  obtain ⟨ii, hii, hiz, his, hib⟩ := info_parts info_R9
  have hr := run_makeSlice (P := Try.prog) w 72 50 ii _ Try.underlying72 hii hiz .i64 .i64 8 8 (by omega) (by omega) (by rw [his]; decide) (by rw [hib]; omega) (by omega)
  rw [hr, his, made_R9]
  rfl
theorem run_make_B (w : World) : (Instr.makeSlice 73 (.int .i64 8) (.int .i64 8)).run Try.prog w = .ok (.slice (some ⟨w.heap.size, 0, none⟩) 8 8) (w.alloc (.cells (hasL fun _ => none).toArray 4)) := by
  obtain ⟨ii, hii, hiz, his, hib⟩ := info_parts info_B
  have hr := run_makeSlice (P := Try.prog) w 73 4 ii _ Try.underlying73 hii hiz .i64 .i64 8 8 (by omega) (by omega) (by rw [his]; decide) (by rw [hib]; omega) (by omega)
  rw [hr, his, made_B]
  rfl
theorem LS.new (w : World) : LS (w.alloc (.cells zeroL.toArray 50)) w.heap.size (fun _ => none) := by
  refine ⟨zeroL, ⟨heap_alloc_new w _, by decide, fun v hv => ?_⟩, rfl, fun c _ r h => by cases h⟩
  unfold zeroL at hv
  obtain ⟨l, h1, h2⟩ := List.mem_flatten.1 hv
  rw [List.mem_replicate] at h1
  rw [h1.2] at h2
  exact rc_no8 _ _ _ _ _ v h2
theorem HS.new (w : World) : HS (w.alloc (.cells (hasL fun _ => none).toArray 4)) w.heap.size (fun _ => none) := by
  refine ⟨heap_alloc_new w _, by decide, fun v hv z => ?_⟩
  simp only [hasL, List.mem_map] at hv
  obtain ⟨c, _, rfl⟩ := hv
  intro h; cases h
end Go.Proofs.Ytjgmboleiaehaaa
