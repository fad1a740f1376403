/-
  DirAdds walked (layer 8).
-/
import Derived.Test.YtcbmdcgaedkfnaaEAddsM
import Derived.Test.YtcbmdcgaedkfnaaEOf
import Derived.Test.YtcbmdcgaedkfnaaESame
namespace Go.Proofs.Ytcbmdcgaedkfnaa
open Go.RowKit Go.Shelf

theorem built_H (i : Int) : Try.prog.built 39 [(0, .int .u32 i)] = some #[.int .u32 i, .int .u32 0] := by kernel_rfl
theorem built_E3 (c i g : Int) (v : ByteArray) : Try.prog.built 41 [(0, .int .u64 c), (1, .agg #[.int .u32 i, .int .u32 g]), (2, .string v)] = some #[.int .u64 c, .int .u32 i, .int .u32 g, .string v] := by kernel_rfl
theorem built_addX (i k : Nat) : Try.prog.built 41 [(0, .int .u64 ((i : Int) + 1)), (1, .agg #[.int .u32 (i : Int), .int .u32 0]), (2, .string (txt [nb k]))] = some (ec (addX i k)).toArray := by
  rw [built_E3]
  rfl
theorem bb_nou8 {w : World} {g n : Nat} {p : Nat → Bool} (h : BB w g n p) : ∀ o z, w.cell? ⟨g, o, none⟩ ≠ some (.int .u8 z) := by
  intro o z
  rw [cell_of_row _ _ _ _ _ _ h]
  by_cases hk : o < n <;> simp [bcs, hk]

set_option maxRecDepth 100000 in
set_option maxHeartbeats 4000000 in
theorem adds_walk (A : Option Addr) (n c : Nat) (l : List UInt8) (w : World) (h : BS w A n l) :
    Calls Try.prog 7 #[.slice A n c] w fun e w' => e = .returned (.bool true) ∧ Below w.heap.size w w' := by
  have HS := Lib.hid h
  clear h
  go_enter Try.func7, Try.ntmps7
  go_wp2_with fail
  refine (awake_any w).mono ?_
  rintro en w1 ⟨rfl, hb1⟩
  have HW1 := Lib.hid hb1
  have HS1 := Lib.hid (HS.out.below hb1)
  clear hb1
  by_cases h40 : 40 < n
  · have h40' : (40 : Int) < (n : Int) := by omega
    go_wp2_with fail
    go_ret
    exact ⟨rfl, HW1.out⟩
  have h40' : ¬ (40 : Int) < (n : Int) := by omega
  have HN : Hid (n ≤ 40) := Nat.le_of_not_lt h40
  go_wp2_with (first
    | (refine wpList_make_row rfl 58 4 (.bool false) 1 _ _ rfl Try.underlying58 infoBool rfl (by omega) 26 rfl rfl (by omega) ?_
       intro w2 hg2 hs2 hb2
       have HW2 := Lib.hid (HW1.out.trans (hb2.mono HW1.out.size))
       have HS2 := Lib.hid (HS1.out.below hb2)
       have HB2 : Hid (BB w2 w1.heap.size 26 (fun _ => false)) := hg2
       clear hb2 hg2 hs2))
  have HG : Hid (w.heap.size ≤ w1.heap.size) := HW1.out.size
  clear h40' HW1 HS1
  generalize w1.heap.size = g at *
  go_loopw [4, 6] (fun L i wr => ∃ m : Nat, m ≤ n ∧ i = .int .i64 m ∧ ∃ p es A' n' c', L = .slice A' n' c' ∧ Hid (AI m p es) ∧ Hid (ES wr A' n' es) ∧ Hid (n' ≤ c' ∧ c' ≤ 9223372036854775807) ∧
    Hid (BB wr g 26 p) ∧ Hid (BS wr A n l) ∧ Hid (Below w.heap.size w wr)) (fun _ i _ => n - (intOf i).toNat)
  case atStart => exact ⟨0, by omega, rfl, _, [], none, 0, 0, rfl, AI.nil, ES.nil, ⟨Nat.le_refl _, Nat.zero_le _⟩, HB2, HS2, HW2⟩
  case round =>
    obtain ⟨m, hm, rfl, p, es, A', n', c', rfl, HI, HE, HC, HB, HSr, HWr⟩ := hrel
    clear HB2 HS2 HW2 HS
    have HNL : Hid (n' = es.length) := HE.out.1.symm
    have HNM : Hid (n' ≤ 40) := by show _ ≤ _; rw [HNL.out]; have := HI.out.len; have := HN.out; omega
    by_cases hlt : m < n
    · have hlt' : (m : Int) < (n : Int) := by omega
      obtain ⟨bb, oo, rfl, hlb, hc0⟩ := HSr.out.at hlt
      generalize l[m] = z at hc0
      obtain ⟨G, hG, hzG⟩ : ∃ G : Nat, G < 26 ∧ (z.toNat : Int) % 26 = G := ⟨z.toNat % 26, Nat.mod_lt _ (by omega), by simp⟩
      have hG26 : (G : Int) < 26 := by omega
      have q1 : IntKind.u8.wrap (G : Int) = G := wrap_u8 (by omega) (by omega)
      have q2 : IntKind.i64.wrap (G : Int) = G := IntWalk.i64_in _ (by omega)
      have q4 : IntKind.u8.wrap (97 + (G : Int)) = 97 + (G : Int) := wrap_u8 (by omega) (by omega)
      have q5 : IntKind.u64.wrap (m : Int) = m := wrap_u64 (by omega) (by omega)
      have q6 : IntKind.u64.wrap ((m : Int) + 1) = (m : Int) + 1 := wrap_u64 (by omega) (by omega)
      have q7 : IntKind.u32.wrap (m : Int) = m := IntWalk.u32_in _ (by omega)
      have htm : Int.tmod (z.toNat : Int) 26 = (G : Int) := by rw [← hzG]; exact Int.tmod_eq_emod_of_nonneg (by omega)
      have HNB : Hid (97 + (G : Int) = ((nb G).toNat : Int)) := (nb_int (by omega)).symm
      have HBM := Lib.hid (built_addX m G)
      clear hzG
      go_wp2_with (first
        | (refine wpList_byte1 rfl (.tmp 36) rfl (nb G) (congrArg (Value.int .u8) HNB.out) ?_
           intro w3 hs3 hb3
           have HX3 := Lib.hid hs3
           have HW3 := Lib.hid (HWr.out.trans (hb3.mono HWr.out.size))
           have HE3 := Lib.hid (HE.out.below hb3)
           have HB3 := Lib.hid (HB.out.below hb3)
           have HS3 := Lib.hid (HSr.out.below hb3)
           clear hs3 hb3)
        | (refine wpList_conv_bs rfl (.tmp 37) rfl _ 1 1 [nb G] rfl HX3.out ?_)
        | (refine Did.list rfl (did_build 39 #[(0, .tmp 45)] rfl _ (built_H (m : Int))) ?_)
        | (refine Did.list rfl (did_build 41 #[(0, .tmp 43), (1, .tmp 46), (2, .tmp 47)] rfl (ec (addX m G)).toArray (by simpa [Act.eval] using HBM.out)) ?_))
      refine (add_any A' n' c' es (addX m G) w3 HE3.out HI.out.wide (addX_wide (by have := HN.out; omega)) (by have := HNM.out; omega)).mono ?_
      rintro en w4 ⟨A4, n4, c4, rfl, hes4, hc4, hb4⟩
      have HC4 := Lib.hid hc4
      have HW4 := Lib.hid (HW3.out.trans (hb4.mono HW3.out.size))
      have HL4 := Lib.hid (HE3.out.below hb4)
      have HB4 := Lib.hid (HB3.out.below hb4)
      have HS4 := Lib.hid (HS3.out.below hb4)
      clear hc4 hb4 HW3 HE3 HB3 HS3 HWr HE HB HSr HX3 HNB HBM hc0
      have c1 := HB4.out.cell (k := G) (by omega)
      cases hp : p G
      rotate_left
      · obtain ⟨h1, h2⟩ := HI.out.old hG hp
        rw [h1]
        rw [h2] at hes4
        obtain rfl : n4 = 0 := hes4.1.symm
        rw [hp] at c1
        clear h1 h2 hes4
        go_wp2_with fail
        go_roundw
        case rel => exact ⟨m + 1, by omega, by go_num, p, es, A', n', c', rfl, HI.out.skip, HL4, HC, HB4, HS4, HW4⟩
        case measure => simp [intOf]; omega
      · obtain ⟨h1, h2, h3, h4, h5⟩ := HI.out.new hG (by have := HN.out; omega) hp
        rw [h1]
        rw [h2] at hes4
        obtain rfl : n4 = n' + 1 := by rw [HNL.out, ← hes4.1]; simp
        rw [hp] at c1
        have HE4 := Lib.hid hes4
        have H3 := Lib.hid h3
        have H4 := Lib.hid h4
        have H5 := Lib.hid h5
        obtain ⟨b4, o4, rfl, _, hj4, hcc⟩ := hes4.at (k := n') (by omega)
        have hge : (es ++ [addX m G])[n'] = addX m G := by
          have e0 := HNL.out
          subst e0
          simp
        rw [hge] at hcc
        have k3 : w4.cell? ⟨b4, o4 + n' * 4 + 3, none⟩ = some (.string (txt [nb G])) := hcc 3 _ rfl
        have r1 : IntKind.i64.wrap ((n' : Int) + 1) = (n' : Int) + 1 := IntWalk.i64_in _ (by have := HNM.out; omega)
        clear h1 h2 h3 h4 h5 hes4 hcc hge hj4
        go_wp2_with fail
        refine (find_any (some ⟨b4, o4, none⟩) (n' + 1) c4 (es ++ [addX m G]) [nb G] w4 HE4.out (by have := HNM.out; omega)).mono ?_
        rintro en w5 ⟨rfl, hb5⟩
        rw [H3.out, ← HNL.out]
        have HE5 := Lib.hid (HE4.out.below hb5)
        have HL5 := Lib.hid (HL4.out.below hb5)
        have HB5 := Lib.hid (HB4.out.below hb5)
        have HS5 := Lib.hid (HS4.out.below hb5)
        have HW5 := Lib.hid (HW4.out.trans (hb5.mono HW4.out.size))
        clear hb5 HE4 HL4 HB4 HS4 HW4 k3 c1
        go_wp2_with fail
        refine (find_any A' n' c' es [nb G] w5 HL5.out (by have := HNM.out; omega)).mono ?_
        rintro en w6 ⟨rfl, hb6⟩
        rw [H4.out]
        have HE6 := Lib.hid (HE5.out.below hb6)
        have HB6 := Lib.hid (HB5.out.below hb6)
        have HS6 := Lib.hid (HS5.out.below hb6)
        have HW6 := Lib.hid (HW5.out.trans (hb6.mono HW5.out.size))
        clear hb6 HE5 HL5 HB5 HS5 HW5
        have c1 := HB6.out.cell (k := G) (by omega)
        have c2 := HB6.out.froz G
        go_wp2_with fail
        go_roundw
        case rel =>
          refine ⟨m + 1, by omega, by go_num, upd p G true, es ++ [addX m G], some ⟨b4, o4, none⟩, n' + 1, c4, rfl, H5, ?_, HC4, ?_, ?_, ?_⟩
          · exact HE6.out.off HB6.out.nostr (set_keep _ _ _ _)
          · exact HB6.out.set G true
          · exact HS6.out.off (bb_nou8 HB6.out) fun k _ hk' => (set_keep _ _ _ _).block k hk'
          · exact HW6.out.setCell (p := ⟨g, G, none⟩) HG.out _
        case measure => simp [intOf]; omega
    · obtain rfl : m = n := by omega
      have HPL := Lib.hid (put_len HI.out.ok (n := 40) (by rw [← HNL.out]; exact HNM.out))
      obtain ⟨hge, hgl⟩ := got_put es HI.out.wide HI.out.ok
      have HGE := Lib.hid hge
      have HGL := Lib.hid hgl
      clear hge hgl
      go_wp2_with fail
      refine (put_any A' n' c' es _ HE.out HI.out.wide (by have := HNM.out; omega) (fun hk => by have := HPL.out; rw [show putE es = encs es from if_pos hk] at this; omega)).mono ?_
      rintro en w3 ⟨A3, n3, c3, rfl, hbs3, hb3⟩
      rw [chk_ok HI.out.ok]
      have HX3 := Lib.hid hbs3
      have HN3 : Hid (n3 ≤ 1880) := by show _ ≤ _; rw [← hbs3.1]; have := HPL.out; omega
      have HL3 := Lib.hid (HE.out.below hb3)
      have HW3 := Lib.hid (HWr.out.trans (hb3.mono HWr.out.size))
      clear hbs3 hb3
      go_wp2_with fail
      refine (get_any A3 n3 c3 _ w3 HX3.out (by have := HN3.out; omega)).mono ?_
      rintro en w4 ⟨A4, n4, c4, rfl, hes4, _, hb4⟩
      rw [HGE.out]
      rw [HGL.out] at hes4
      have HE4 := Lib.hid hes4
      have HL4 := Lib.hid (HL3.out.below hb4)
      have HW4 := Lib.hid (HW3.out.trans (hb4.mono HW3.out.size))
      have HN4 : Hid (n4 = n') := by show _ = _; rw [HNL.out, hes4.1]
      clear hes4 hb4
      go_wp2_with fail
      refine (of_any A4 n4 c4 es w4 HE4.out (by have := HNM.out; have := HN4.out; omega)).mono ?_
      rintro en w5 ⟨A5, c5, rfl, hes5, hb5⟩
      have HE5 := Lib.hid hes5
      have HL5 := Lib.hid (HL4.out.below hb5)
      have HW5 := Lib.hid (HW4.out.trans (hb5.mono HW4.out.size))
      clear hes5 hb5
      go_wp2_with fail
      refine (of_any A' n' c' es w5 HL5.out (by have := HNM.out; omega)).mono ?_
      rintro en w6 ⟨A6, c6, rfl, hes6, hb6⟩
      have HE6 := Lib.hid hes6
      have HF6 := Lib.hid (HE5.out.below hb6)
      have HW6 := Lib.hid (HW5.out.trans (hb6.mono HW5.out.size))
      clear hes6 hb6
      go_wp2_with fail
      refine (same_any A5 A6 n4 n' c5 c6 es es w6 HF6.out HE6.out (by have := HNM.out; have := HN4.out; omega)).mono ?_
      rintro en w7 ⟨rfl, hb7⟩
      rw [decide_eq_true (show es = es from rfl)]
      have HW7 := Lib.hid (HW6.out.trans (hb7.mono HW6.out.size))
      clear hb7
      go_wp2_with fail
      go_ret
      exact ⟨rfl, HW7.out⟩
end Go.Proofs.Ytcbmdcgaedkfnaa
