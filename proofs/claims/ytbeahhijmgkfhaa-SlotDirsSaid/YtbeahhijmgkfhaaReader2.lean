
/-
  Contracts of layer 1's Reader, on: Bool, Opaque, and the nil Reader.
-/
import Derived.Test.YtbeahhijmgkfhaaReader
namespace Go.Proofs.Ytbeahhijmgkfhaa
open Go.RowKit

/-- A bool is read. -/
def rdB (s : St) : St × Bool := if 1 < (rdN 4 s).2 then (((rdN 4 s).1.1, 11), false) else ((rdN 4 s).1, (rdN 4 s).2 == 1)

/-- An error other than 0 is told with the number 0. -/
theorem rdN_zero (n : Nat) (s : St) (h : (rdN n s).1.2 ≠ 0) : (rdN n s).2 = 0 := by
  unfold rdN at *
  split
  · rfl
  · rename_i h1
    rw [if_neg h1] at h
    split
    · rfl
    · rename_i h2
      rw [if_neg h2] at h
      exact absurd rfl h

/-- All bytes are 0. -/
def noughts (l : List UInt8) : Bool := l.all (· == 0)
/-- A byte string of at most 'most' bytes is read. -/
def rdO (most : Int) (s : St) : St × List UInt8 :=
  if (rdN 4 s).1.2 ≠ 0 then ((rdN 4 s).1, [])
  else if most < 0 ∨ most < ((rdN 4 s).2 : Int) then (((rdN 4 s).1.1, 13), [])
  else if (rdN 4 s).1.1.length < (rdN 4 s).2 + pad (rdN 4 s).2 then (((rdN 4 s).1.1, 10), [])
  else if noughts (((rdN 4 s).1.1.drop (rdN 4 s).2).take (pad (rdN 4 s).2)) then (((rdN 4 s).1.1.drop ((rdN 4 s).2 + pad (rdN 4 s).2), 0), (rdN 4 s).1.1.take (rdN 4 s).2)
  else (((rdN 4 s).1.1.drop ((rdN 4 s).2 + pad (rdN 4 s).2), 11), [])

/-- What Opaque leaves: its bytes in new memory, the Reader's new state, all else as it was. -/
def OpPost (w : World) (q : Nat) (b : List UInt8) (s : St) (en : Ending) (w' : World) : Prop :=
  ∃ A c, en = .returned (.slice A b.length c) ∧ BS w' A b.length b ∧ Rd w' q s.1 s.2 ∧ w.grownBy w' (some q) ∧ (∀ ad, A = some ad → w.heap.size ≤ ad.block ∧ ad.block ≠ q)

theorem RdAt.drewN {w : World} {q : Nat} {l : List UInt8} {e : Int} {A : Option Addr} {c : Nat} (h : RdAt w q l e A c) (n : Nat) : RdAt (w.drewN n) q l e A c := h
theorem only_drewN {a w : World} {row : Option Nat} (h : a.grownBy w row) (n : Nat) : a.grownBy (w.drewN n) row := ⟨h.os, h.tape, h.output, h.size, h.block⟩
theorem BS.rd {w w' : World} {A : Option Addr} {n q : Nat} {b l : List UInt8} {e : Int} (hb : BS w A n b) (h : Rd w q l e) (hg : w.grownBy w' (some q)) : BS w' A n b := by
  obtain ⟨A', c', h⟩ := h
  exact hb.off h.noByte (fun k hk hne => hg.block k hk (fun e => hne (by injection e)))

theorem padding_quiet (x : Nat) (w : World) (n : Nat) (h : x ≤ 1000000000000) : Calls Try.prog 55 #[.int .i64 (x : Int)] (w.drewN n) fun e w' => e = .returned (.int .i64 (pad x : Int)) ∧ ∃ m, w' = w.drewN m :=
  (padding_any (x : Int) (w.drewN n) (by omega) (by omega)).mono fun _ _ ⟨h1, h2⟩ => ⟨by rw [h1, Int.toNat_natCast], n, h2.symm⟩

set_option maxRecDepth 100000 in
set_option maxHeartbeats 1000000 in
theorem opaquer (w : World) (q : Nat) (l : List UInt8) (e : Int) (most : Int) (hm0 : -9223372036854775808 ≤ most) (hm1 : most ≤ 9223372036854775807) (h : Rd w q l e) :
    Calls Try.prog 46 #[.pointer (some ⟨q, 0, none⟩), .int .i64 most] w (OpPost w q (rdO most (l, e)).2 (rdO most (l, e)).1) := by
  have H := Lib.hid h
  clear h
  have HP := Lib.hid (u32r w q l e H.out)
  have hx32 : (rdN 4 (l, e)).2 < 4294967296 := by
    unfold rdN
    split
    · simp
    · split
      · simp
      · simp only
        have h1 := num_lt (l.take 4)
        have h2 : (l.take 4).length ≤ 4 := by rw [List.length_take]; omega
        have := Nat.pow_le_pow_right (n := 256) (by omega) h2
        omega
  generalize hro : rdO most (l, e) = ro at *
  unfold rdO at hro
  generalize rdN 4 (l, e) = r at *
  obtain ⟨⟨l', e'⟩, x⟩ := r
  simp only at hro hx32
  by_cases he : e' = 0
  · subst he
    rw [if_neg (by simp)] at hro
    by_cases hb : most < 0 ∨ most < (x : Int)
    · rw [if_pos hb] at hro
      subst hro
      rcases Int.lt_or_le most 0 with hneg | hpos
      · clear hb
        have hd : decide (most < 0) = true := by simp [hneg]
        go_enter Try.func46, Try.ntmps46
        go_wp2_with fail
        refine HP.out.mono ?_
        rintro en w1 ⟨rfl, ⟨A, c, hr⟩, hg⟩
        have HR := Lib.hid hr
        have HG := Lib.hid hg
        have hc := hr.cell1
        have hf := hr.froz 1
        clear hr hg
        go_wp2_with fail
        refine (err_any w1 q l' 0 ⟨_, _, HR.out⟩).mono ?_
        rintro en w2 ⟨rfl, rfl⟩
        go_wp2_with fail
        go_ret
        exact ⟨none, 0, rfl, BS.nil, ⟨_, _, HR.out.setErr 13⟩, HG.out.trans (off_setCell _ _ _ _), fun ad h => by cases h⟩
      · have hmx : most < (x : Int) := by omega
        clear hb
        have hd : decide (most < 0) = false := by simp [hpos]
        have hdx : decide (most < (x : Int)) = true := by simp [hmx]
        have wm : IntKind.u64.wrap most = most := by rw [IntKind.wrap_u64]; omega
        have wx : IntKind.u64.wrap (x : Int) = (x : Int) := by rw [IntKind.wrap_u64]; omega
        go_enter Try.func46, Try.ntmps46
        go_wp2_with fail
        refine HP.out.mono ?_
        rintro en w1 ⟨rfl, ⟨A, c, hr⟩, hg⟩
        have HR := Lib.hid hr
        have HG := Lib.hid hg
        have hc := hr.cell1
        have hf := hr.froz 1
        clear hr hg
        go_wp2_with fail
        refine (err_any w1 q l' 0 ⟨_, _, HR.out⟩).mono ?_
        rintro en w2 ⟨rfl, rfl⟩
        go_wp2_with fail
        go_ret
        exact ⟨none, 0, rfl, BS.nil, ⟨_, _, HR.out.setErr 13⟩, HG.out.trans (off_setCell _ _ _ _), fun ad h => by cases h⟩
    · rw [if_neg hb] at hro
      have hmx : (x : Int) ≤ most := by omega
      have hm0' : 0 ≤ most := by omega
      clear hb
      have hd : decide (most < 0) = false := by simp [hm0']
      have hdx : decide (most < (x : Int)) = false := by simp [hmx]
      have wm : IntKind.u64.wrap most = most := by rw [IntKind.wrap_u64]; omega
      have wx : IntKind.u64.wrap (x : Int) = (x : Int) := by rw [IntKind.wrap_u64]; omega
      have wx' : IntKind.i64.wrap (x : Int) = (x : Int) := by rw [IntKind.wrap_i64]; omega
      have Hro := Lib.hid hro
      clear hro
      go_enter Try.func46, Try.ntmps46
      go_wp2_with fail
      refine HP.out.mono ?_
      rintro en w1 ⟨rfl, ⟨A, c, hr⟩, hg⟩
      have HR := Lib.hid hr
      have HG := Lib.hid hg
      have hc0 := hr.cell0
      have hl' := hr.2.2.1
      clear hr hg
      go_wp2_with fail
      refine (err_any w1 q l' 0 ⟨_, _, HR.out⟩).mono ?_
      rintro en w2 ⟨rfl, rfl⟩
      go_wp2_with fail
      have hp4 := pad_lt x
      by_cases hsh : l'.length < x + pad x
      · have hro := Hro.out
        rw [if_pos hsh] at hro
        subst hro
        have hc1 := HR.out.cell1
        have hf1 := HR.out.froz 1
        have hw : IntKind.i64.wrap ((l'.length : Int) - (x : Int)) = (l'.length : Int) - (x : Int) := by rw [IntKind.wrap_i64]; omega
        have hdt : decide ((l'.length : Int) - (x : Int) < (pad x : Int)) = true := by simp; omega
        go_quiet ((go_at_call 55; exact padding_quiet x w1 _ (by omega)))
        go_wp2_with fail
        go_ret
        exact ⟨none, 0, rfl, BS.nil, ⟨_, _, (HR.out.drewN _).setErr 10⟩, (only_drewN HG.out _).trans (off_setCell _ _ _ _), fun ad h => by cases h⟩
      · have hro := Hro.out
        rw [if_neg hsh] at hro
        have Hro2 := Lib.hid hro
        clear Hro hro
        have hw : IntKind.i64.wrap ((l'.length : Int) - (x : Int)) = (l'.length : Int) - (x : Int) := by rw [IntKind.wrap_i64]; omega
        have hdt : decide ((l'.length : Int) - (x : Int) < (pad x : Int)) = false := by simp; omega
        go_quiet ((go_at_call 55; exact padding_quiet x w1 _ (by omega)))
        go_wp2_with fail
        refine (take_any _ q l' 0 x ⟨A, c, HR.out.drewN _⟩ (by omega)).mono ?_
        rintro en w2 ⟨A2, rfl, hbs2, hrd2, hg2⟩
        have HB2 := Lib.hid hbs2
        have HR2 := Lib.hid hrd2
        have HG2 := Lib.hid ((only_drewN HG.out _).trans hg2)
        clear hbs2 hrd2 hg2 HR HG hc0 hw hdt
        go_wp2_with fail
        refine (padding_any _ _ (by omega) (by omega)).mono ?_
        rintro en w' ⟨rfl, rfl⟩
        rw [Int.toNat_natCast]
        generalize hp : pad x = p at *
        have Hp := Lib.hid hp
        clear hp
        have hlen2 : p ≤ (l'.drop x).length := by rw [List.length_drop]; omega
        go_wp2_with fail
        refine (take_any w2 q (l'.drop x) 0 p HR2.out hlen2).mono ?_
        rintro en w3 ⟨A3, rfl, hbs3, hrd3, hg3⟩
        rw [List.drop_drop] at hrd3
        have HB23 := Lib.hid (HB2.out.rd HR2.out hg3)
        have HB3 := Lib.hid hbs3
        have HR3 := Lib.hid hrd3
        have HG3 := Lib.hid (HG2.out.trans hg3)
        have Hlt : Hid (((l'.drop x).take p).length = p) := hbs3.1
        clear hbs3 hrd3 hg3 HB2 HR2 HG2 hlen2
        generalize hT : (l'.drop x).take p = t at *
        have HT := Lib.hid hT
        clear hT
        go_wp2_with fail
        go_loop [50] (fun i => ∃ k : Nat, k ≤ p ∧ i = .int .i64 k ∧ Hid (noughts (t.take k) = true)) (fun i => p - (intOf i).toNat)
        case atStart => exact ⟨0, by omega, rfl, rfl⟩
        case round =>
          obtain ⟨k, hk, rfl, HN⟩ := hrel
          by_cases hlt : k < p
          · have hkt : k < t.length := by rw [Hlt.out]; exact hlt
            obtain ⟨b, o, rfl, hcs⟩ := HB3.out.2 (by omega)
            have hc := hcs k hkt
            clear hcs
            obtain ⟨A', c', hr⟩ := HR3.out
            have hc1 := hr.cell1
            have hf1 := hr.froz 1
            have HRA := Lib.hid hr
            clear hr
            by_cases hz : t[k] = 0
            · have hz1 : ((t[k].toNat : Int) != 0) = false := by rw [hz]; rfl
              have HN2 : Hid (noughts (t.take (k + 1)) = true) := by
                show noughts _ = true
                have := HN.out
                unfold noughts at *
                rw [List.take_succ_eq_append_getElem hkt, List.all_append, this, hz]
                rfl
              clear hz
              go_wp2_with fail
              exact ⟨⟨k + 1, by omega, by go_num, HN2⟩, by simp [intOf]; omega⟩
            · have hz1 : ((t[k].toNat : Int) != 0) = true := by
                rw [bne_iff_ne]
                intro h
                exact hz (UInt8.toNat_inj.1 (by simpa using h))
              have HZ : Hid (noughts t = false) := by
                show noughts t = false
                unfold noughts
                rw [List.all_eq_false]
                exact ⟨t[k], List.getElem_mem hkt, by simpa using hz⟩
              clear hz
              go_wp2_with fail
              go_ret
              have hro := Hro2.out
              rw [HZ.out, if_neg (by simp)] at hro
              subst hro
              exact ⟨none, 0, rfl, BS.nil, ⟨_, _, HRA.out.setErr 11⟩, HG3.out.trans (off_setCell _ _ _ _), fun ad h => by cases h⟩
          · have hkp : k = p := by omega
            subst hkp
            have hN := HN.out
            rw [List.take_of_length_le (by rw [Hlt.out]; exact Nat.le_refl _)] at hN
            have hro := Hro2.out
            rw [hN, if_pos rfl] at hro
            subst hro
            have hlx : (l'.take x).length = x := HB23.out.1
            have Hlx := Lib.hid hlx
            clear hN hlx HN
            go_wp2_with fail
            refine (clone_any A2 x x (l'.take x) w3 HB23.out (by omega)).mono ?_
            rintro en w4 ⟨A4, c4, rfl, ho⟩
            have HO := Lib.hid ho
            clear ho
            go_wp2_with fail
            go_ret
            refine ⟨A4, c4, ?_, ?_, HR3.out.kept HO.out.2, ?_, ?_⟩
            · show _ = Ending.returned (.slice A4 (l'.take x).length c4)
              rw [Hlx.out]
              rfl
            · show BS w4 A4 (l'.take x).length (l'.take x)
              rw [Hlx.out]
              exact HO.out.bs
            · exact HG3.out.trans ⟨HO.out.2.os, HO.out.2.tape, HO.out.2.output, HO.out.2.size, fun i hi _ => HO.out.2.block i hi⟩
            · intro ad had
              subst had
              have := (HO.out.1.lt ad.block rfl).1
              have h1 := HG3.out.size
              have h2 := HR3.out.lt
              omega
  · rw [if_pos he] at hro
    subst hro
    have he' : (e' != 0) = true := by simp [he]
    clear he
    go_enter Try.func46, Try.ntmps46
    go_wp2_with fail
    refine HP.out.mono ?_
    rintro en w1 ⟨rfl, hr, hg⟩
    have HR := Lib.hid hr
    have HG := Lib.hid hg
    clear hr hg
    go_wp2_with fail
    refine (err_any w1 q l' e' HR.out).mono ?_
    rintro en w2 ⟨rfl, rfl⟩
    go_wp2_with fail
    go_ret
    exact ⟨none, 0, rfl, BS.nil, HR.out, HG.out, fun ad h => by cases h⟩
end Go.Proofs.Ytbeahhijmgkfhaa
