/-
  DirReads walked (layer 8).
-/
import Derived.Test.YtcbmdcgaedkfnaaERdsM
import Derived.Test.YtcbmdcgaedkfnaaEAfter
namespace Go.Proofs.Ytcbmdcgaedkfnaa
open Go.RowKit Go.Shelf

/-- What DirReads knows of the memory. -/
structure RW (w : World) (B : Option Addr) (s : Nat) (sc : List UInt8) (g g2 : Nat) (A : Option Addr) (n : Nat) (es : List En) (stays : Nat → Bool) (told : Nat → Nat) (W : World) : Prop where
  bel : Below w.heap.size w W
  sb : BS W B s sc
  es : ES W A n es
  bb : BB W g 100 stays
  ib : IB W g2 100 told
  hg : w.heap.size ≤ g
  hg2 : w.heap.size ≤ g2
  ne : g ≠ g2
section
variable {w W W' : World} {B A A4 : Option Addr} {s g g2 n n4 : Nat} {sc : List UInt8} {es es4 : List En} {stays : Nat → Bool} {told : Nat → Nat}
theorem bb_no8 {w : World} {g n : Nat} {p : Nat → Bool} (h : BB w g n p) : ∀ o z, w.cell? ⟨g, o, none⟩ ≠ some (.int .u8 z) := by
  intro o z
  rw [cell_of_row _ _ _ _ _ _ h]
  by_cases hk : o < n <;> simp [bcs, hk]
theorem ib_no8 {w : World} {g n : Nat} {p : Nat → Nat} (h : IB w g n p) : ∀ o z, w.cell? ⟨g, o, none⟩ ≠ some (.int .u8 z) := by
  intro o z
  rw [cell_of_row _ _ _ _ _ _ h]
  by_cases hk : o < n <;> simp [ics, hk]
theorem RW.below (h : RW w B s sc g g2 A n es stays told W) (hb : Below W.heap.size W W') : RW w B s sc g g2 A n es stays told W' :=
  ⟨h.bel.trans (hb.mono h.bel.size), h.sb.below hb, h.es.below hb, h.bb.below hb, h.ib.below hb, h.hg, h.hg2, h.ne⟩
theorem RW.setB (h : RW w B s sc g g2 A n es stays told W) (k : Nat) (x : Bool) : RW w B s sc g g2 A n es (upd stays k x) told (W.setCell ⟨g, k, none⟩ (.bool x)) :=
  ⟨h.bel.setCell (p := ⟨g, k, none⟩) h.hg _, h.sb.off (bb_no8 h.bb) fun j _ hj => (set_keep _ _ _ _).block j hj, h.es.off h.bb.nostr (set_keep _ _ _ _), h.bb.set k x, h.ib.off _ h.ne.symm, h.hg, h.hg2, h.ne⟩
theorem RW.setI (h : RW w B s sc g g2 A n es stays told W) (k x : Nat) : RW w B s sc g g2 A n es stays (upd told k x) (W.setCell ⟨g2, k, none⟩ (.int .i64 (x : Int))) :=
  ⟨h.bel.setCell (p := ⟨g2, k, none⟩) h.hg2 _, h.sb.off (ib_no8 h.ib) fun j _ hj => (set_keep _ _ _ _).block j hj, h.es.off h.ib.nostr (set_keep _ _ _ _), h.bb.off _ h.ne, h.ib.set k x, h.hg, h.hg2, h.ne⟩
theorem RW.with (h : RW w B s sc g g2 A n es stays told W) (h4 : ES W A4 n4 es4) : RW w B s sc g g2 A4 n4 es4 stays told W := ⟨h.bel, h.sb, h4, h.bb, h.ib, h.hg, h.hg2, h.ne⟩
end
theorem bb_none {w : World} {g n : Nat} (h : w.heap[g]? = some (.cells ((List.range n).map fun _ => Value.bool false).toArray 4 (0, 0))) : BB w g n (fun j => decide (1 ≤ j ∧ j ≤ 0)) := by
  unfold BB bcs
  have e : (fun j : Nat => decide (1 ≤ j ∧ j ≤ 0)) = fun _ => false := by
    funext j
    exact decide_eq_false (by omega)
  rw [e]
  exact h
theorem built_nm (c : Int) (v : ByteArray) : Try.prog.built 41 [(0, .int .u64 c), (2, .string v)] = some #[.int .u64 c, .int .u32 0, .int .u32 0, .string v] := by kernel_rfl
theorem e110 : Value.int .u8 110 = Value.int .u8 (((110 : UInt8).toNat : Nat) : Int) := congrArg (Value.int .u8) (by decide)
theorem e109 : Value.int .u8 109 = Value.int .u8 (((109 : UInt8).toNat : Nat) : Int) := congrArg (Value.int .u8) (by decide)
theorem mkR_1 {N m : Nat} (h : m + 1 ≤ N) : mkR N (m + 1) = ⟨m + 1, 0, 0, [110, nb m]⟩ := by
  unfold mkR nmR
  rw [if_pos h]
  rfl
theorem mkR_2 {N m : Nat} (h : N ≤ m) : mkR N (m + 1) = ⟨m + 1, 0, 0, [109, UInt8.ofNat (m + 1)]⟩ := by
  unfold mkR nmR
  rw [if_neg (by omega)]
theorem rws_get (N : Nat) (cs : List Nat) (k : Nat) (h : k < (rws N cs).length) : (rws N cs)[k] = mkR N (cs[k]'(by rw [← rws_len N]; exact h)) := List.getElem_map ..
theorem upd_from (m : Nat) : upd (fun j => decide (1 ≤ j ∧ j ≤ m)) (m + 1) true = fun j => decide (1 ≤ j ∧ j ≤ m + 1) := by
  funext i
  simp only [upd]
  split
  · rename_i h; rw [h]; simp
  · rename_i h
    exact decide_eq_decide.2 (by omega)

set_option maxRecDepth 100000 in
set_option maxHeartbeats 16000000 in
theorem reads_walk (A : Option Addr) (n c : Nat) (l : List UInt8) (x : Nat) (B : Option Addr) (s d : Nat) (sc : List UInt8) (w : World) (_ : BS w A n l) (hx : x < 256) (hb : BS w B s sc) :
    Calls Try.prog 5 #[.slice A n c, .int .u8 (x : Int), .slice B s d] w fun e w' => e = .returned (.bool true) ∧ Below w.heap.size w w' := by
  have HSB := Lib.hid hb
  clear hb
  go_enter Try.func5, Try.ntmps5
  go_wp2_with fail
  refine (awake_any w).mono ?_
  rintro en w1 ⟨rfl, hb1⟩
  have HW1 := Lib.hid hb1
  have HSB1 := Lib.hid (HSB.out.below hb1)
  clear hb1
  by_cases h12 : 12 < n
  · have h12' : (12 : Int) < (n : Int) := by omega
    go_wp2_with fail
    go_ret
    exact ⟨rfl, HW1.out⟩
  have h12' : ¬ (12 : Int) < (n : Int) := by omega
  by_cases h40 : 40 < s
  · have h40' : (40 : Int) < (s : Int) := by omega
    go_wp2_with fail
    go_ret
    exact ⟨rfl, HW1.out⟩
  have h40' : ¬ (40 : Int) < (s : Int) := by omega
  have HN12 : Hid (n ≤ 12) := Nat.le_of_not_lt h12
  have HS40 : Hid (s ≤ 40) := Nat.le_of_not_lt h40
  obtain ⟨K, hK, hKx⟩ : ∃ K : Nat, K < 3 ∧ ((x : Int) % 3) = K := ⟨x % 3, Nat.mod_lt _ (by omega), by simp⟩
  have hmod : IntKind.u8.wrap (K : Int) = K := IntWalk.u8_in _ (by omega)
  have hmod3 : IntKind.i64.wrap (K : Int) = K := IntWalk.i64_in _ (by omega)
  have hmod4 : IntKind.i64.wrap ((K : Int) + 1) = (K : Int) + 1 := IntWalk.i64_in _ (by omega)
  have htm : Int.tmod (x : Int) 3 = (K : Int) := by rw [← hKx]; exact Int.tmod_eq_emod_of_nonneg (by omega)
  clear hKx
  go_wp2_with (first
    | (refine wpList_make_row rfl 58 4 (.bool false) 1 _ _ rfl Try.underlying58 infoBool rfl (by omega) 100 rfl rfl (by omega) ?_
       intro w2 hg2 hs2 hb2
       have HW2 := Lib.hid (HW1.out.trans (hb2.mono HW1.out.size))
       have HSB2 := Lib.hid (HSB1.out.below hb2)
       have HB2 : Hid (BB w2 w1.heap.size 100 (fun j => decide (1 ≤ j ∧ j ≤ 0))) := bb_none hg2
       clear hb2 hg2 hs2))
  have HG : Hid (w.heap.size ≤ w1.heap.size) := HW1.out.size
  clear h12' h40' HW1 HSB1 h12 h40
  generalize w1.heap.size = g at *
  go_loopw [8, 10, 11] (fun L ck i wr => ∃ m : Nat, m ≤ n ∧ i = .int .i64 m ∧ ck = .int .u64 m ∧ ∃ A' n' c', L = .slice A' n' c' ∧ Hid (ES wr A' n' (rws n (fst1 m))) ∧ Hid (n' ≤ c' ∧ c' ≤ 9223372036854775807) ∧
    Hid (BB wr g 100 (fun j => decide (1 ≤ j ∧ j ≤ m))) ∧ Hid (BS wr B s sc) ∧ Hid (Below w.heap.size w wr)) (fun _ _ i _ => n - (intOf i).toNat)
  case atStart => exact ⟨0, by omega, rfl, rfl, none, 0, 0, rfl, ES.nil, ⟨Nat.le_refl _, Nat.zero_le _⟩, HB2, HSB2, HW2⟩
  case round =>
    obtain ⟨m, hm, rfl, rfl, A', n', c', rfl, HE, HC, HBB, HSr, HWr⟩ := hrel
    clear HB2 HSB2 HW2 HSB
    have hm12 : m ≤ 12 := by have := HN12.out; omega
    have HNL : Hid (n' = m) := by show _ = _; rw [← HE.out.1, rws_len]; simp [fst1]
    by_cases hlt : m < n
    · have hlt' : (m : Int) < (n : Int) := by omega
      have q1 : IntKind.u64.wrap ((m : Int) + 1) = (m : Int) + 1 := IntWalk.u64_in _ (by omega)
      have q3 : IntKind.u8.wrap (m : Int) = m := IntWalk.u8_in _ (by omega)
      have q4 : IntKind.u8.wrap (97 + (m : Int)) = 97 + (m : Int) := IntWalk.u8_in _ (by omega)
      have q5 : ((m : Int) + 1).toNat = m + 1 := by omega
      have q6 : (m : Int) + 1 < 100 := by omega
      have q7 : (0 : Int) ≤ (m : Int) + 1 := by omega
      have HNB : Hid (97 + (m : Int) = ((nb m).toNat : Int)) := (nb_int (by omega)).symm
      have HAD := Lib.hid (rws_add HN12.out (fst1_srt m) (Nat.lt_succ_self m) (by omega) (by omega))
      rw [mkR_1 (show m + 1 ≤ n by omega)] at HAD
      go_wp2_with (first
        | (refine wpList_byte2 rfl (.const (.int .u8 110)) (.tmp 51) rfl 110 (nb m) e110 (congrArg (Value.int .u8) HNB.out) ?_
           intro w3 hs3 hb3
           have HX3 := Lib.hid hs3
           have HW3 := Lib.hid (HWr.out.trans (hb3.mono HWr.out.size))
           have HE3 := Lib.hid (HE.out.below hb3)
           have HB3 := Lib.hid (HBB.out.below hb3)
           have HS3 := Lib.hid (HSr.out.below hb3)
           clear hs3 hb3)
        | (refine wpList_conv_bs rfl (.tmp 52) rfl _ 2 2 [110, nb m] rfl HX3.out ?_))
      refine (add_any A' n' c' (rws n (fst1 m)) ⟨m + 1, 0, 0, [110, nb m]⟩ w3 HE3.out (rws_wide (fst1_srt m) (by omega)) ⟨by show m + 1 < _; omega, by show 0 < _; omega, by show 0 < _; omega⟩ (by have := HNL.out; omega)).mono ?_
      rintro en w4 ⟨A4, n4, c4, rfl, hes4, hc4, hb4⟩
      rw [HAD.out.1]
      rw [HAD.out.2, ← fst1_succ] at hes4
      have HC4 := Lib.hid hc4
      have HW4 := Lib.hid (HW3.out.trans (hb4.mono HW3.out.size))
      have HE4 := Lib.hid hes4
      have HB4 := Lib.hid (HB3.out.below hb4)
      have HS4 := Lib.hid (HS3.out.below hb4)
      clear hes4 hc4 hb4 HW3 HE3 HB3 HS3 HWr HE HBB HSr HX3 HNB HC HAD
      have c1 := HB4.out.cell (k := m + 1) (by omega)
      have c2 := HB4.out.froz (m + 1)
      go_wp2_with fail
      go_roundw
      case rel =>
        refine ⟨m + 1, by omega, by go_num, by go_num, A4, n4, c4, rfl, ?_, HC4, ?_, ?_, ?_⟩
        · exact HE4.out.off HB4.out.nostr (set_keep _ _ _ _)
        · have := HB4.out.set (m + 1) true
          rw [upd_from] at this
          exact this
        · exact HS4.out.off (bb_no8 HB4.out) fun k _ hk' => (set_keep _ _ _ _).block k hk'
        · exact HW4.out.setCell (p := ⟨g, m + 1, none⟩) HG.out _
      case measure => simp [intOf]; omega
    · obtain rfl : m = n := by omega
      have HSB2 : Hid (∀ j : Nat, (fun j => decide (1 ≤ j ∧ j ≤ m)) j = decide (1 ≤ j ∧ j ≤ m)) := fun _ => rfl
      have HRI0 := Lib.hid (RI.start HN12.out)
      clear hm12 hm hlt HSB2
      go_wp2_with (first
        | (refine wpList_make_row rfl 59 3 (.int .i64 0) 8 _ _ rfl Try.underlying59 infoInt rfl (by omega) 100 rfl rfl (by omega) ?_
           intro w5 hg5 hs5 hb5
           have HW5 : Hid (RW w B s sc g wr.heap.size A' n' (rws m (fst1 m)) (fun j => decide (1 ≤ j ∧ j ≤ m)) (fun _ => 0) w5) :=
             ⟨HWr.out.trans (hb5.mono HWr.out.size), HSr.out.below hb5, HE.out.below hb5, HBB.out.below hb5, hg5, HG.out, HWr.out.size, by have := HBB.out.lt; omega⟩
           clear hb5 hg5 hs5))
      clear HE HBB HSr HWr HG HNL
      generalize wr.heap.size = g2 at *
      go_loopw [8, 10, 15, 16] (fun L ck a i wr => ∃ cs c0 t stays told A' n' c' j, L = .slice A' n' c' ∧ ck = .int .u64 ((c0 : Nat) : Int) ∧ a = .int .u64 ((t : Nat) : Int) ∧ i = .int .i64 ((j : Nat) : Int) ∧ j ≤ s ∧
        Hid (RI m cs c0 t stays told) ∧ Hid (n' ≤ c' ∧ c' ≤ 9223372036854775807) ∧ Hid (RW w B s sc g g2 A' n' (rws m cs) stays told wr)) (fun _ _ a i _ => (s + 1 - (intOf i).toNat) * 200 + (100 - (intOf a).toNat))
      case atStart => exact ⟨fst1 m, m, 0, _, _, A', n', c', 0, rfl, rfl, rfl, rfl, Nat.zero_le _, HRI0, HC, HW5⟩
      case round =>
        obtain ⟨cs, c0, t, stays, told, A', n', c', j, rfl, rfl, rfl, rfl, hj, HRI, HC, HR⟩ := hrel
        clear HRI0 HW5
        have hjs : (j : Int) ≤ (s : Int) := by omega
        have HNL : Hid (n' = cs.length) := by show _ = _; rw [← HR.out.es.1, rws_len]
        have HNM : Hid (n' ≤ 90) := by show _ ≤ _; rw [HNL.out]; have := HRI.out.len; have := HRI.out.c90; omega
        have HWD := Lib.hid (rws_wide (N := m) HRI.out.srt (by have := HRI.out.c90; omega))
        go_wp2_with fail
        refine (after_any A' n' c' (rws m cs) t ((K : Int) + 1) wr HR.out.es HC.out.1 HC.out.2 (by have := HNM.out; omega)).mono ?_
        rintro en w3 ⟨A3, n3, c3, rfl, hes3, _, hb3⟩
        rw [show ((K : Int) + 1) = ((K + 1 : Nat) : Int) by omega, rws_aft] at hes3
        rw [show ((K : Int) + 1) = ((K + 1 : Nat) : Int) by omega, rws_aftB]
        obtain ⟨ab, hab⟩ : ∃ ab, decide ((dr cs t).length ≤ K + 1) = ab := ⟨_, rfl⟩
        rw [hab]
        have HAB := Lib.hid hab
        have HXL : Hid (n3 = (xsR cs t (K + 1)).length) := by show _ = _; rw [← hes3.1, rws_len]
        have HX3 := Lib.hid hes3
        have HX9 : Hid (n3 ≤ 3) := by show _ ≤ _; rw [HXL.out]; unfold xsR; rw [List.length_take]; omega
        have HR3 : Hid (RW w B s sc g g2 A' n' (rws m cs) stays (tk told (xsR cs t (K + 1)) 0) w3) := by
          have h1 := HR.out.below hb3
          have h2 : tk told (xsR cs t (K + 1)) 0 = told := by funext q; unfold tk; simp
          show RW _ _ _ _ _ _ _ _ _ _ _ _
          rw [h2]
          exact h1
        have HPG := Lib.hid (HRI.out.page (m := K + 1))
        have HOV := Lib.hid (HRI.out.over (m := K + 1))
        have HMO := Lib.hid (HRI.out.more (m := K + 1))
        have HNX := fun k hk => Lib.hid (HRI.out.next (m := K + 1) (k := k) hk)
        have H90 := Lib.hid (HRI.out.x90 (m := K + 1))
        clear hab hes3 hb3 HR
        generalize xsR cs t (K + 1) = xs at *
        go_wp2_with fail
        go_loopw [15, 19] (fun a i wq => ∃ k : Nat, k ≤ n3 ∧ i = .int .i64 k ∧ a = .int .u64 ((atk xs t k : Nat) : Int) ∧ Hid (ES wq A3 n3 (rws m xs)) ∧ Hid (RW w B s sc g g2 A' n' (rws m cs) stays (tk told xs k) wq)) (fun _ i _ => n3 - (intOf i).toNat)
        case atStart => exact ⟨0, Nat.zero_le _, rfl, rfl, HX3, HR3⟩
        case round =>
          obtain ⟨k, hk, rfl, rfl, HXq, HRq⟩ := hrel
          clear HX3 HR3
          by_cases hlt : k < n3
          · have hlt' : (k : Int) < (n3 : Int) := by omega
            obtain ⟨b, o, rfl, hbl, hjx, hcl⟩ := HXq.out.at hlt
            have hkx : k < xs.length := by rw [← HXL.out]; exact hlt
            have he : (rws m xs)[k] = mkR m xs[k] := rws_get m xs k hjx
            have r1 : IntKind.i64.wrap ((k : Int) + 1) = (k : Int) + 1 := IntWalk.i64_in _ (by have := HX9.out; omega)
            rw [he] at hcl
            have HNK := HNX k hkx
            have HAS := Lib.hid (atk_succ (t := t) hkx)
            have hy90 : xs[k] ≤ 90 := H90.out _ (List.getElem_mem hkx)
            clear he hjx
            generalize xs[k] = y at *
            have k0 : wr.cell? ⟨b, o + k * 4, none⟩ = some (.int .u64 ((y : Nat) : Int)) := hcl 0 _ rfl
            have hd1 : decide (y ≤ atk xs t k) = false := decide_eq_false (by have := HNK.out.1; omega)
            have hd2 : ¬ (99 : Int) < (y : Int) := by omega
            have hd3 : (y : Int) < 100 := by omega
            have c1 := HRq.out.ib.cell (k := y) (by omega)
            rw [HNK.out.2.1] at c1
            have c2 := HRq.out.ib.froz y
            clear hcl
            go_wp2_with fail
            go_roundw
            case rel =>
              refine ⟨k + 1, by omega, by go_num, by rw [HAS.out], ?_, ?_⟩
              · exact HXq.out.off HRq.out.ib.nostr (set_keep _ _ _ _)
              · have := HRq.out.setI y 1
                rw [HNK.out.2.2] at this
                exact this
            case measure => simp [intOf]; omega
          · obtain rfl : k = n3 := by omega
            have hk2 := HXL.out
            rw [← hk2] at HPG HOV HMO
            clear hk2 hlt HNX HXL H90 HXq hk
            have HTT : Hid (t ≤ atk xs t k) := HPG.out.2
            have HT9 : Hid (atk xs t k ≤ 90) := Nat.le_trans HPG.out.1.tck HPG.out.1.c90
            generalize atk xs t k = t' at *
            generalize tk told xs k = told' at *
            by_cases hjl : j = s
            · subst hjl
              cases hab : ab
              · have ha : K + 1 < (dr cs t).length := Nat.lt_of_not_le (of_decide_eq_false (HAB.out.trans hab))
                obtain ⟨hk0, htt⟩ := HMO.out ha (by omega)
                have hkn : ¬ (k : Int) = 0 := by omega
                have hkn2 : ¬ k = 0 := by omega
                have s1 : IntKind.i64.wrap ((j : Int) - 1) = (j : Int) - 1 := IntWalk.i64_in _ (by have := HS40.out; omega)
                have s2 : IntKind.i64.wrap ((j : Int) - 1 + 1) = (j : Int) := by rw [Int.sub_add_cancel]; exact IntWalk.i64_in _ (by have := HS40.out; omega)
                clear ha hab HAB HOV HMO
                go_wp2_with fail
                go_roundw
                case rel => exact ⟨cs, c0, t', stays, told', A', n', c', j, rfl, rfl, rfl, by go_num, Nat.le_refl _, HPG.out.1, HC, HRq⟩
                case measure => have := HT9.out; simp [intOf]; omega
              · skip
                have ha : (dr cs t).length ≤ K + 1 := of_decide_eq_true (HAB.out.trans hab)
                have HFN := Lib.hid (HOV.out ha)
                have HT1 := Lib.hid (HPG.out.1.t1)
                clear ha hab HAB HOV HMO HPG
                go_wp2_with fail
                go_loop [25] (fun i => ∃ q : Nat, 1 ≤ q ∧ q ≤ m + 1 ∧ i = .int .i64 q) (fun i => m + 1 - (intOf i).toNat)
                case atStart => exact ⟨1, Nat.le_refl _, by omega, rfl⟩
                case round =>
                  obtain ⟨q, hq1, hqm, rfl⟩ := hrel
                  by_cases hql : q ≤ m
                  · have hql' : (q : Int) ≤ (m : Int) := by omega
                    have hq100 : (q : Int) < 100 := by have := HN12.out; omega
                    have hqw : IntKind.i64.wrap ((q : Int) + 1) = (q : Int) + 1 := IntWalk.i64_in _ (by omega)
                    have c1 := HRq.out.ib.cell (k := q) (by omega)
                    have cB := HRq.out.bb.cell (k := q) (by omega)
                    have hv := HT1.out q
                    have hF := HFN.out q
                    cases hst : stays q
                    · rw [hst] at cB
                      clear hF
                      rcases (show told' q = 0 ∨ told' q = 1 by omega) with h0 | h0
                      all_goals
                        rw [h0] at c1
                        clear hv h0 hst
                        go_wp2_with fail
                        go_round
                        case rel => exact ⟨q + 1, by omega, by omega, by go_num⟩
                        case measure => simp [intOf]; omega
                    · rw [hst] at cB
                      rw [hF hst] at c1
                      clear hF hv hst
                      go_wp2_with fail
                      go_round
                      case rel => exact ⟨q + 1, by omega, by omega, by go_num⟩
                      case measure => simp [intOf]; omega
                  · have hql' : (m : Int) < (q : Int) := by omega
                    go_wp2_with fail
                    go_ret
                    exact ⟨rfl, HRq.out.bel⟩
            · have hjl' : (j : Int) < (s : Int) := by omega
              have hjl2 : ¬ (s : Int) ≤ (j : Int) := by omega
              have hjl3 : ¬ (j : Int) = (s : Int) := by omega
              have hjl4 : ((j : Int) == (s : Int)) = false := beq_false_of_ne hjl3
              obtain ⟨bz, oz, rfl, _, hcz⟩ := HRq.out.sb.at (k := j) (by omega)
              generalize sc[j] = z at hcz
              have r2 : IntKind.i64.wrap ((j : Int) + 1) = (j : Int) + 1 := IntWalk.i64_in _ (by have := HS40.out; omega)
              have HRI2 := Lib.hid HPG.out.1
              clear HPG HOV HMO HAB HRI
              obtain ⟨zb, hzb⟩ : ∃ zb : Int, bits BinOp.and IntKind.u8 (z.toNat : Int) 1 = zb := ⟨_, rfl⟩
              by_cases hz : zb = 0 ∧ c0 < 90
              · obtain ⟨rfl, hc90⟩ := hz
                have hc90' : (c0 : Int) < 90 := by omega
                have q1 : IntKind.u64.wrap ((c0 : Int) + 1) = (c0 : Int) + 1 := IntWalk.u64_in _ (by omega)
                have q3 : IntKind.u8.wrap ((c0 : Int) + 1) = (c0 : Int) + 1 := IntWalk.u8_in _ (by omega)
                have hnb : (c0 : Int) + 1 = ((UInt8.ofNat (c0 + 1)).toNat : Int) := by
                  rw [ofNat_toNat (by omega)]
                  rfl
                have hmk := mkR_2 (N := m) (m := c0) HRI2.out.nck
                generalize UInt8.ofNat (c0 + 1) = cb at hnb hmk
                have HNB := Lib.hid hnb
                have HMK := Lib.hid hmk
                clear hnb hmk
                cases hab : ab
                all_goals
                  clear hab
                  go_wp2_with (first
                    | (refine wpList_byte2 rfl (.const (.int .u8 109)) (.tmp 145) rfl 109 cb e109 (congrArg (Value.int .u8) HNB.out) ?_
                       intro w4 hs4 hb4
                       have HX4 := Lib.hid hs4
                       have HR4 := Lib.hid (HRq.out.below hb4)
                       clear hs4 hb4)
                    | (refine wpList_conv_bs rfl (.tmp 146) rfl _ 2 2 [109, cb] rfl HX4.out ?_))
                  refine (add_any A' n' c' (rws m cs) ⟨c0 + 1, 0, 0, [109, cb]⟩ w4 HR4.out.es HWD.out ⟨by show c0 + 1 < _; omega, by show 0 < _; omega, by show 0 < _; omega⟩ (by have := HNM.out; omega)).mono ?_
                  rintro en w5 ⟨A5, n5, c5, rfl, hes5, hc5, hb5⟩
                  rw [← HMK.out] at hes5 ⊢
                  have HR5 := Lib.hid (HR4.out.below hb5)
                  by_cases h47 : c0 = 46
                  · subst h47
                    rw [rws_add47 HN12.out]
                    clear hes5 hc5 hb5 HX4 HR4 HRq HNB
                    go_wp2_with fail
                    go_roundw
                    case rel => exact ⟨cs, 47, t', stays, told', A', n', c', j + 1, rfl, rfl, rfl, by go_num, by omega, Lib.hid (HRI2.out.tick (by omega)), HC, HR5⟩
                    case measure => have := HT9.out; simp [intOf]; omega
                  · have ha := rws_add HN12.out HRI2.out.srt (Nat.lt_succ_self c0) (by omega) (by omega)
                    rw [ha.1]
                    rw [ha.2] at hes5
                    have HR6 := Lib.hid (HR5.out.with hes5)
                    have HC5 := Lib.hid hc5
                    have HRI3 := Lib.hid (HRI2.out.add (by omega))
                    clear ha hes5 hc5 hb5 HX4 HR4 HR5 HRq HNB
                    go_wp2_with fail
                    go_roundw
                    case rel => exact ⟨cs ++ [c0 + 1], c0 + 1, t', stays, told', A5, n5, c5, j + 1, rfl, by go_num, rfl, by go_num, by omega, HRI3, HC5, HR6⟩
                    case measure => have := HT9.out; simp [intOf]; omega
              · rcases Nat.eq_zero_or_pos n' with hn0 | hn0
                · subst hn0
                  rcases (show ¬ zb = 0 ∨ zb = 0 ∧ ¬ (c0 : Int) < 90 by omega) with hz1 | ⟨rfl, hz1⟩
                  all_goals
                    clear hz
                    cases hab : ab
                  all_goals
                    clear hab
                    go_wp2_with fail
                    go_roundw
                    case rel => exact ⟨cs, c0, t', stays, told', A', 0, c', j + 1, rfl, rfl, rfl, by go_num, by omega, HRI2, HC, HRq⟩
                    case measure => have := HT9.out; simp [intOf]; omega
                · obtain ⟨y2, hy2⟩ : ∃ y : Nat, wrap64 ((z.toNat : Int) / 2) = (y : Int) := ⟨z.toNat / 2, by
                    have := z.toNat_lt
                    rw [IntWalk.wrap64_in _ (by omega)]
                    omega⟩
                  obtain ⟨q, hqn, hq⟩ : ∃ q : Nat, q < n' ∧ Int.tmod (y2 : Int) (n' : Int) = (q : Int) := ⟨y2 % n', Nat.mod_lt _ hn0, by
                    rw [Int.tmod_eq_emod_of_nonneg (by omega)]
                    rfl⟩
                  obtain ⟨b, o, rfl, hbl, hjx, hcl⟩ := HRq.out.es.at hqn
                  have hqc : q < cs.length := by rw [← HNL.out]; exact hqn
                  have he : (rws m cs)[q] = mkR m cs[q] := rws_get m cs q hjx
                  rw [he] at hcl
                  have HRM := Lib.hid (rws_rem HN12.out HRI2.out.srt HRI2.out.c90 (k := q) hqc)
                  have HRR := Lib.hid (HRI2.out.rem (k := q) hqc)
                  have hy90 : cs[q] ≤ 90 := Nat.le_trans (HRI2.out.srt.le _ (List.getElem_mem hqc)) HRI2.out.c90
                  clear he hjx
                  generalize (cs.take q ++ cs.drop (q + 1)) = cs' at *
                  generalize cs[q] = y at *
                  have k0 : wr.cell? ⟨b, o + q * 4, none⟩ = some (.int .u64 ((y : Nat) : Int)) := hcl 0 _ rfl
                  have k3 : wr.cell? ⟨b, o + q * 4 + 3, none⟩ = some (.string (txt (nmR m y))) := hcl 3 _ rfl
                  have hbg : ¬ b = g := by
                    rintro rfl
                    exact HRq.out.bb.nostr _ _ k3
                  have k3' : (wr.setCell ⟨g, y, none⟩ (.bool false)).cell? ⟨b, o + q * 4 + 3, none⟩ = some (.string (txt (nmR m y))) := (World.cell?_of_block ((set_keep wr g y (.bool false)).block b hbg)).trans k3
                  have k0' : (wr.setCell ⟨g, y, none⟩ (.bool false)).cell? ⟨b, o + q * 4, none⟩ = some (.int .u64 ((y : Nat) : Int)) := (World.cell?_of_block ((set_keep wr g y (.bool false)).block b hbg)).trans k0
                  have hd3 : (y : Int) < 100 := by omega
                  have c1 := HRq.out.bb.cell (k := y) (by omega)
                  have c2 := HRq.out.bb.froz y
                  have hqn' : (q : Int) < (n' : Int) := by omega
                  have hn0' : (0 : Int) < (n' : Int) := by omega
                  have hn0'' : ¬ (n' : Int) = 0 := by omega
                  have HRs := Lib.hid (HRq.out.setB y false)
                  clear hcl
                  rcases (show ¬ zb = 0 ∨ zb = 0 ∧ ¬ (c0 : Int) < 90 by omega) with hz1 | ⟨rfl, hz1⟩
                  all_goals
                    clear hz
                    cases hab : ab
                  all_goals
                    clear hab
                    go_wp2_with fail
                    refine (remove_any (some ⟨b, o, none⟩) n' c' (rws m cs) (nmR m y) (wr.setCell ⟨g, y, none⟩ (.bool false)) HRs.out.es HC.out.1 HC.out.2 (by have := HNM.out; omega)).mono ?_
                    rintro en w5 ⟨A5, n5, c5, rfl, hes5, hc5, hb5⟩
                    rw [HRM.out.1]
                    rw [HRM.out.2] at hes5
                    have HR6 := Lib.hid ((HRs.out.below hb5).with hes5)
                    have HC5 := Lib.hid hc5
                    clear hes5 hc5 hb5 HRs HRq HRM k0 k3 k3' k0' c1 c2 hqn hqn' hn0 hn0' hn0'' hqc
                    go_wp2_with fail
                    go_roundw
                    case rel => exact ⟨cs', c0, t', upd stays y false, told', A5, n5, c5, j + 1, rfl, rfl, rfl, by go_num, by omega, HRR, HC5, HR6⟩
                    case measure => have := HT9.out; simp [intOf]; omega
end Go.Proofs.Ytcbmdcgaedkfnaa
