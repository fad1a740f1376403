/-
  Contract of reaches: does a directory lie below another one? (layer 13)
-/
import Derived.Test.YtpbpdnjlomhkdaaGreatOPRow
namespace Go.Proofs.YtpbpdnjlomhkdaaGreat
open Go.RowKit Go.Shelf

namespace Op
theorem nodup_len : ∀ (n : Nat) (L : List Nat), L.Nodup → (∀ x ∈ L, x < n) → L.length ≤ n
  | 0, [], _, _ => Nat.le_refl _
  | 0, x :: _, _, h => absurd (h x (List.mem_cons_self ..)) (Nat.not_lt_zero _)
  | n + 1, L, hd, h => by
    have h1 := nodup_len n (L.erase n) (hd.erase n) (fun x hx => by
      have h2 := (hd.mem_erase_iff).1 hx
      have := h x h2.2
      have := h2.1
      omega)
    have h2 := List.length_erase (a := n) (l := L)
    by_cases hm : n ∈ L
    · rw [if_pos hm] at h2; omega
    · rw [if_neg hm] at h2; omega
/-- Those that were reached from k so far; the first i of them are done. -/
structure Rch (t : TT) (k : Nat) (L : List Nat) (i : Nat) : Prop where
  nd : L.Nodup
  und : ∀ x ∈ L, x < 24 ∧ (t.s x).kind = 2 ∧ Und t k x
  top : k ∈ L
  cl : ∀ (a x : Nat), a < i → L[a]? = some x → ∀ e ∈ ents t x, folderE t e.ino e.gen = 0 → e.ino ∈ L
section
variable {t : TT} {k i : Nat} {L : List Nat}
theorem Rch.len (h : Rch t k L i) : L.length ≤ 24 := nodup_len 24 L h.nd fun x hx => (h.und x hx).1
theorem Rch.one (hk : k < 24) (h2 : (t.s k).kind = 2) : Rch t k [k] 0 :=
  ⟨by simp, fun x hx => by obtain rfl := List.mem_singleton.1 hx; exact ⟨hk, h2, .self⟩, by simp, fun a x ha => absurd ha (Nat.not_lt_zero _)⟩
theorem Rch.all (h : Rch t k L L.length) (d : Nat) : decide (d ∈ L) = inside t d k := by
  rw [Bool.eq_iff_iff, inside_iff, decide_eq_true_iff]
  refine ⟨fun hd => (h.und d hd).2.2, fun hu => ?_⟩
  induction hu with
  | self => exact h.top
  | step _ _ he hf ih =>
    obtain ⟨a, ha, rfl⟩ := List.getElem_of_mem ih
    exact h.cl a _ ha (List.getElem?_eq_getElem ha) _ he hf
theorem folder_two {a b : Nat} (h : thingE t a b = 0) (h2 : (t.s a).kind = 2) : folderE t a b = 0 := by
  unfold folderE
  rw [if_neg (fun c => c h), if_neg (fun c => c h2)]
theorem folder_thing {a b : Nat} (h : folderE t a b = 0) : thingE t a b = 0 := by
  unfold folderE at h
  by_cases c : thingE t a b ≠ 0
  · rw [if_pos c] at h; cases h
  · exact Classical.not_not.1 c
theorem Rch.add (h : Rch t k L i) (hi : i ≤ L.length) {y : Nat} (hy : y ∈ L) {e : En} (he : e ∈ ents t y) (hf : folderE t e.ino e.gen = 0) (hn : e.ino ∉ L) : Rch t k (L ++ [e.ino]) i := by
  refine ⟨?_, fun x hx => ?_, List.mem_append_left _ h.top, fun a x ha hx e' he' hf' => ?_⟩
  · rw [List.nodup_append]
    exact ⟨h.nd, by simp, fun a ha b hb => by obtain rfl := List.mem_singleton.1 hb; intro e; exact hn (e ▸ ha)⟩
  · rcases List.mem_append.1 hx with h1 | h1
    · exact h.und x h1
    · obtain rfl := List.mem_singleton.1 h1
      have h2 := h.und y hy
      exact ⟨(folder_ok hf).1, (folder_ok hf).2.1, .step h2.2.2 h2.1 he hf⟩
  · rw [List.getElem?_append_left (by omega)] at hx
    exact List.mem_append_left _ (h.cl a x ha hx e' he' hf')
end
end Op
section
variable {w0 w w' : World} {p g k : Nat} {t u : Op.TT} {sl : Nat → Sl} {c : Cl} {B : Option Addr} {n d : Nat} {r r' : Rp} {D D' : Option Addr} {m e m' e' : Nat} {E E' : Option Addr} {q f q' f' : Nat}
set_option maxRecDepth 100000 in
set_option maxHeartbeats 1500000 in
theorem reaches_any (h : RX w0 w p g k t sl c B n d r D m e E q f) (hs : Op.Sound t) {top low : Nat} (ht : top < 24) (h2 : (t.s top).kind = 2) :
    Calls Tryz.prog 120 #[.pointer (some ⟨p, 0, none⟩), .pointer (some ⟨g, top * 9, none⟩), .pointer (some ⟨g, low * 9, none⟩)] w fun e w' => e = .returned (.bool (Op.inside t low top)) ∧ Below w.heap.size w w' := by
  have HX := Lib.hid h
  have HDR : Hid (∀ i, i < 24 → (t.s i).kind = 2 → Op.Dir t i) := (show Hid _ from fun i hi hk => hs.inv.isDir hi hk)
  have HR0 := Lib.hid (Op.Rch.one ht h2)
  obtain ⟨IN, hIN⟩ : ∃ IN : List Nat → Prop, (∀ L, IN L ↔ Op.Rch t top L L.length) := ⟨_, fun _ => Iff.rfl⟩
  have HIN : Hid (∀ L, Op.Rch t top L L.length → decide (low ∈ L) = Op.inside t low top) := (show Hid _ from fun L hL => hL.all low)
  generalize Op.inside t low top = ans at *
  have HB0 := Lib.hid (alloc_below w (.cells #[.pointer (some ⟨g, top * 9, none⟩)] 149))
  have HROW0 := Lib.hid (PR.one w g top)
  clear h hs ht h2 hIN IN
  go_enter Tryz.func120, Tryz.ntmps120
  go_upto_region 3 with fail
  go_loopw [7, 8] (fun s7 s8 wr => ∃ (L : List Nat) (b cc i : Nat), s7 = .slice (some ⟨b, 0, none⟩) L.length cc ∧ s8 = .int .i64 i ∧ i ≤ L.length ∧ L.length ≤ 24 ∧ Hid (Below w.heap.size w wr) ∧ Hid (PR wr w.heap.size g b cc L) ∧ Hid (Op.Rch t top L i)) (fun _ s8 _ => 24 - (intOf s8).toNat)
  case atStart => exact ⟨[top], w.heap.size, 1, 0, rfl, rfl, by simp, by simp, HB0.out, HROW0.out, HR0.out⟩
  case round =>
    clear HB0 HROW0 HR0
    obtain ⟨L, b, cc, i, rfl, rfl, hi, hl, HB, HROW, HRC⟩ := hrel
    by_cases hlt : i < L.length
    · have hc := HROW.out.ptrs i hlt
      have HY := Lib.hid (List.getElem?_eq_getElem hlt)
      have HYD : Hid (Op.Dir t L[i]) := HDR.out _ (HRC.out.und _ (List.getElem_mem hlt)).1 (HRC.out.und _ (List.getElem_mem hlt)).2.1
      generalize L[i] = y at *
      go_upto_region 6 with (refine (entries_any (HX.out.below HB.out) HYD.out).mono ?_; rintro e w2 ⟨A2, n2, c2, rfl, he2, hn2, hb2⟩)
      have HE2 := Lib.hid he2
      have HB2 : Hid (Below w.heap.size w w2) := HB.out.trans (hb2.mono HB.out.size)
      have HROW2 := Lib.hid (HROW.out.below hb2)
      have HF2 := HYD.out.few
      have hlen2 := he2.1
      obtain ⟨es, hes⟩ : ∃ es, es = Op.ents t y := ⟨_, rfl⟩
      rw [← hes] at HE2 HF2 hlen2
      have HES := Lib.hid hes
      have HYI : Hid (L[i]? = some y) := HY.out
      clear hes he2 hn2 hb2 HB HROW HYD hc HY
      go_loopw [7, 27] (fun s7 s27 w3 => ∃ (M : List Nat) (b3 c3 j : Nat), s7 = .slice (some ⟨b3, 0, none⟩) M.length c3 ∧ s27 = .int .i64 j ∧ j ≤ n2 ∧ i < M.length ∧ M.length ≤ 24 ∧ Hid (Below w.heap.size w w3) ∧ Hid (ES w3 A2 n2 es) ∧ Hid (PR w3 w.heap.size g b3 c3 M) ∧ Hid (Op.Rch t top M i) ∧ Hid (M[i]? = some y) ∧ Hid (∀ a e, a < j → es[a]? = some e → Op.folderE t e.ino e.gen = 0 → e.ino ∈ M)) (fun _ s27 _ => n2 - (intOf s27).toNat)
      case atStart => exact ⟨L, b, cc, 0, rfl, rfl, by omega, by omega, by omega, HB2.out, HE2.out, HROW2.out, HRC.out, HYI.out, fun a e ha => absurd ha (Nat.not_lt_zero _)⟩
      case round =>
        clear HB2 HROW2 HRC HYI hlt hi hl
        obtain ⟨M, b3, c3, j, rfl, rfl, hj, hiM, hM, HB3, HB23, HROW3, HRC3, HYI3, HD3⟩ := hrel
        by_cases hjl : j < n2
        · have hjx : j < es.length := by rw [hlen2]; exact hjl
          obtain ⟨bE, oE, rfl, _, _, hcell⟩ := HB23.out.at hjl
          have HEJ : Hid (es[j]? = some es[j]) := List.getElem?_eq_getElem hjx
          have HEM : Hid (es[j] ∈ es) := List.getElem_mem hjx
          generalize es[j] = z at *
          have HL : Hid (∀ j' u, (ec z)[j']? = some u → wr.cell? ((⟨bE, oE + j * 4, none⟩ : Addr).add j') = some u) := fun a u hu => by
            rw [add_plain]
            exact hcell a u hu
          clear hcell
          go_upto_region 8 with (first
            | (refine Did.list rfl (did_load 87 (.tmp 29) rfl ⟨bE, oE + j * 4, none⟩ rfl _ Tryz.underlying87 rfl (ec z) size_E HL.out) ?_)
            | (refine wpList_alloc_any rfl 87 rfl _ zero_E ?_; intro w5 hb5 hs5 hw5)
            | (refine wpList_store_part rfl 87 (.tmp 10) (.tmp 30) rfl wr.heap.size 0 (ec z) rfl rfl 87 _ hb5 size_E (by simp [ec]) (ec_one' z) ?_
               intro w6 hb6 hs6 hk6))
          have HB36 : Hid (Below wr.heap.size wr w6) := hw5.trans (hk6.below2 (fun k hk => by omega))
          have HBZ : Hid (Bw w6 wr.heap.size (ec z) 87) := hb6
          have HB6 : Hid (Below w.heap.size w w6) := HB3.out.trans (HB36.out.mono HB3.out.size)
          have HB26 : Hid (ES w6 (some ⟨bE, oE, none⟩) n2 es) := HB23.out.below HB36.out
          have HROW6 := Lib.hid (HROW3.out.below HB36.out)
          clear hb5 hs5 hw5 hb6 hs6 hk6 HL HB36 HROW3 HB3 HB23
          go_wp2_with (refine wpList_load_part rfl 35 (.tmp 33) rfl wr.heap.size 1 rfl _ Tryz.underlying35 rfl (hc z.ino z.gen) 87 _ HBZ.out size_H (fun a u hu => by match a, hu with | 0, hu => exact hu | 1, hu => exact hu | a + 2, hu => simp [hc] at hu) ?_)
          refine (xfind_any (HX.out.below HB6.out) z.ino z.gen).mono ?_
          rintro e w7 ⟨rfl, hb7⟩
          have HB7 : Hid (Below w.heap.size w w7) := HB6.out.trans (hb7.mono HB6.out.size)
          have HB27 : Hid (ES w7 (some ⟨bE, oE, none⟩) n2 es) := HB26.out.below hb7
          have HROW7 := Lib.hid (HROW6.out.below hb7)
          clear hb7 HBZ HROW6 HB6 HB26 hjx
          have HSUC : Hid (∀ N : List Nat, (∀ x, x ∈ M → x ∈ N) → (Op.folderE t z.ino z.gen = 0 → z.ino ∈ N) → ∀ a e, a < j + 1 → es[a]? = some e → Op.folderE t e.ino e.gen = 0 → e.ino ∈ N) := (show Hid _ from fun N hN hz a e ha he hf => by
            by_cases hq : a = j
            · subst hq
              obtain rfl : z = e := by have := HEJ.out.symm.trans he; simpa using this
              exact hz hf
            · exact hN _ (HD3.out a e (by omega) he hf))
          by_cases hth : Op.thingE t z.ino z.gen = 0
          · have hi24 := (Op.thing_ok hth).1
            rw [decide_eq_true hth, show plc g z.ino = some ⟨g, z.ino * 9, none⟩ from if_pos hi24]
            have q1 := (HX.out.below HB7.out).cellS hi24 1 _ rfl
            by_cases hk2 : (t.s z.ino).kind = 2
            · have hd : (((t.s z.ino).kind : Int) == 2) = true := by simp; omega
              have HFO := Lib.hid (Op.folder_two hth hk2)
              clear hth hk2
              by_cases hmm : z.ino ∈ M
              · have hdm : decide (z.ino ∈ M) = true := decide_eq_true hmm
                have HMM := Lib.hid hmm
                clear hmm
                go_wp2_with (refine (contains_any _ g b3 c3 M z.ino HROW7.out.ptrs (HX.out.below HB7.out).rw (by omega)).mono ?_; rintro e w8 ⟨rfl, rfl⟩; rw [hdm])
                go_roundw
                case rel => exact ⟨M, b3, c3, j + 1, rfl, by go_num, by omega, hiM, hM, HB7.out, HB27.out, HROW7.out, HRC3.out, HYI3.out, HSUC.out M (fun x hx => hx) (fun _ => HMM.out)⟩
                case measure => simp [intOf]; omega
              · have hdm : decide (z.ino ∈ M) = false := decide_eq_false hmm
                have HMM := Lib.hid hmm
                clear hmm
                have HZM : Hid (z ∈ Op.ents t y) := by rw [← HES.out]; exact HEM.out
                have HRC9 : Hid (Op.Rch t top (M ++ [z.ino]) i) := HRC3.out.add (by omega) (List.mem_of_getElem? HYI3.out) HZM.out HFO.out HMM.out
                have hM9 : M.length + 1 ≤ 24 := by have := HRC9.out.len; simpa using this
                have hsz : w.heap.size ≤ (w7.alloc (.cells #[.pointer (some ⟨g, z.ino * 9, none⟩)] 149)).heap.size := by have := HB7.out.size; simp; omega
                have HPR8 := Lib.hid (HROW7.out.below (alloc_below w7 (.cells #[.pointer (some ⟨g, z.ino * 9, none⟩)] 149)))
                have HAPP := fun ty => Lib.hid (HPR8.out.append (i := z.ino) hsz (by omega) ⟨w7.heap.size, 0, none⟩ (by rw [cell_of_row _ _ _ _ _ _ (heap_alloc_new w7 _)]; rfl) ty)
                go_wp2_with (first
                  | (refine (contains_any _ g b3 c3 M z.ino HROW7.out.ptrs (HX.out.below HB7.out).rw (by omega)).mono ?_; rintro e w8 ⟨rfl, rfl⟩; rw [hdm])
                  | (at_builtin
                     obtain ⟨b9, c9, w9, hrun, hpr9, hgr9, _⟩ := (HAPP 161).out
                     go_must (refine wpList_append_run rfl (.tmp 52) (.tmp 54) 161 rfl _ _ _ rfl rfl hrun ?_)
                     have HB9 : Hid (Below w.heap.size w w9) := (HB7.out.trans ((alloc_below w7 _).mono HB7.out.size)).grown hgr9 hsz (fun q hq => by cases hq; exact HPR8.out.base)
                     have HE9 : Hid (ES w9 (some ⟨bE, oE, none⟩) n2 es) := (HB27.out.alloc _).offS HPR8.out.nostr (fun q hq hne => hgr9.block q hq (fun e => hne (by cases e; rfl)))
                     have HROW9 := Lib.hid hpr9
                     clear hpr9 hgr9 hrun HAPP HPR8 hsz))
                exact ⟨⟨M ++ [z.ino], b9, c9, j + 1, by simp, by go_num, by omega, by simp; omega, by simp; omega, HB9.out, HE9.out, HROW9.out, HRC9.out, by rw [List.getElem?_append_left hiM]; exact HYI3.out, HSUC.out _ (fun x hx => List.mem_append_left _ hx) (fun _ => by simp)⟩, by simp [intOf]; omega⟩
            · have hd : (((t.s z.ino).kind : Int) == 2) = false := by simp; omega
              have HNF : Hid (¬ Op.folderE t z.ino z.gen = 0) := (show Hid _ from fun h => hk2 (Op.folder_ok h).2.1)
              clear hth hk2
              go_wp2
              go_roundw
              case rel => exact ⟨M, b3, c3, j + 1, rfl, by go_num, by omega, hiM, hM, HB7.out, HB27.out, HROW7.out, HRC3.out, HYI3.out, HSUC.out M (fun x hx => hx) (fun h => absurd h HNF.out)⟩
              case measure => simp [intOf]; omega
          · have HNF : Hid (¬ Op.folderE t z.ino z.gen = 0) := (show Hid _ from fun h => hth (Op.folder_thing h))
            rw [decide_eq_false hth]
            clear hth
            go_wp2
            go_roundw
            case rel => exact ⟨M, b3, c3, j + 1, rfl, by go_num, by omega, hiM, hM, HB7.out, HB27.out, HROW7.out, HRC3.out, HYI3.out, HSUC.out M (fun x hx => hx) (fun h => absurd h HNF.out)⟩
            case measure => simp [intOf]; omega
        · obtain rfl : j = n2 := by omega
          go_wp2
          go_roundw
          case rel =>
            refine ⟨M, b3, c3, i + 1, rfl, by go_num, by omega, hM, HB3.out, HROW3.out, (show Hid _ from ⟨HRC3.out.nd, HRC3.out.und, HRC3.out.top, fun a x ha hx e he hf => ?_⟩)⟩
            by_cases hq : a = i
            · subst hq
              obtain rfl : y = x := by have := HYI3.out.symm.trans hx; simpa using this
              rw [← HES.out] at he
              obtain ⟨j', hj', rfl⟩ := List.getElem_of_mem he
              exact HD3.out j' _ (by omega) (List.getElem?_eq_getElem hj') hf
            · exact HRC3.out.cl a x (by omega) hx e he hf
          case measure => simp [intOf]; omega
    · obtain rfl : i = L.length := by omega
      have HA : Hid (decide (low ∈ L) = ans) := HIN.out L HRC.out
      go_wp2_with (refine (contains_any _ g b cc L low HROW.out.ptrs (HX.out.below HB.out).rw (by omega)).mono ?_; rintro e w8 ⟨rfl, rfl⟩; rw [HA.out])
      go_ret
      exact ⟨rfl, HB.out⟩
end
end Go.Proofs.YtpbpdnjlomhkdaaGreat
