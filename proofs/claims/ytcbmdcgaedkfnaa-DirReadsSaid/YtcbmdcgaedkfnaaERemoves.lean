/-
  DirRemoves walked (layer 8).
-/
import Derived.Test.YtcbmdcgaedkfnaaERemM
namespace Go.Proofs.Ytcbmdcgaedkfnaa
open Go.RowKit Go.Shelf

theorem built_any (c : Int) (v : ByteArray) : Try.prog.built 41 [(0, .int .u64 c), (2, .string v)] = some #[.int .u64 c, .int .u32 0, .int .u32 0, .string v] := by kernel_rfl
theorem built_mk (k : Nat) : Try.prog.built 41 [(0, .int .u64 ((k : Int) + 5)), (2, .string (txt [nb k]))] = some (ec (mkE k)).toArray := by
  rw [built_any]
  rfl
theorem upd_lt (k : Nat) : upd (fun i => decide (i < k)) k true = fun i => decide (i < k + 1) := by
  funext i
  simp only [upd]
  split
  · rename_i h; rw [h]; simp
  · rename_i h
    exact decide_eq_decide.2 (by omega)
theorem ltr_init (k n : Nat) (h : k ≤ n) : ltr (fun i => decide (i < k)) n = ltr (fun i => decide (i < k)) k := by
  induction n with
  | zero => obtain rfl : k = 0 := by omega
            rfl
  | succ n ih =>
    by_cases hk : k = n + 1
    · rw [hk]
    · rw [ltr_succ, ih (by omega), decide_eq_false (by omega)]
      simp
theorem wrap_u8 {x : Int} (h : 0 ≤ x) (h2 : x < 256) : IntKind.u8.wrap x = x := IntWalk.u8_in _ (by omega)
theorem wrap_u64 {x : Int} (h : 0 ≤ x) (h2 : x < 18446744073709551616) : IntKind.u64.wrap x = x := IntWalk.u64_in _ (by omega)

set_option maxRecDepth 100000 in
set_option maxHeartbeats 4000000 in
theorem removes_walk (x : Nat) (hx : x < 256) (A : Option Addr) (n c : Nat) (l : List UInt8) (w : World) (h : BS w A n l) :
    Calls Try.prog 8 #[.int .u8 (x : Int), .slice A n c] w fun e w' => e = .returned (.bool true) ∧ Below w.heap.size w w' := by
  have HS := Lib.hid h
  clear h
  go_enter Try.func8, Try.ntmps8
  go_wp2_with fail
  refine (awake_any w).mono ?_
  rintro en w1 ⟨rfl, hb1⟩
  have HW1 := Lib.hid hb1
  have HS1 := Lib.hid (HS.out.below hb1)
  clear hb1
  by_cases h40 : 40 < n
  · have h40' : (40 : Int) < (n : Int) := by omega
    go_wp2_with fail
    go_ret
    exact ⟨rfl, HW1.out⟩
  have h40' : ¬ (40 : Int) < (n : Int) := by omega
  have HN : Hid (n ≤ 40) := Nat.le_of_not_lt h40
  obtain ⟨K, hK, hKx⟩ : ∃ K : Nat, K < 20 ∧ ((x : Int) % 20) = K := ⟨x % 20, Nat.mod_lt _ (by omega), by simp⟩
  have hmod : IntKind.u8.wrap (K : Int) = K := wrap_u8 (by omega) (by omega)
  have hmod3 : IntKind.i64.wrap (K : Int) = K := IntWalk.i64_in _ (by omega)
  have htm : Int.tmod (x : Int) 20 = (K : Int) := by rw [← hKx]; exact Int.tmod_eq_emod_of_nonneg (by omega)
  clear hKx
  go_wp2_with (first
    | (refine wpList_make_row rfl 58 4 (.bool false) 1 _ _ rfl Try.underlying58 infoBool rfl (by omega) 20 rfl rfl (by omega) ?_
       intro w2 hg2 hs2 hb2
       have HW2 := Lib.hid (HW1.out.trans (hb2.mono HW1.out.size))
       have HS2 := Lib.hid (HS1.out.below hb2)
       have HB2 : Hid (BB w2 w1.heap.size 20 (fun i => decide (i < 0))) := hg2
       clear hb2 hg2 hs2))
  have HG : Hid (w.heap.size ≤ w1.heap.size) := HW1.out.size
  clear h40' HW1 HS1 htm hmod hmod3
  generalize w1.heap.size = g at *
  go_loopw [7, 9] (fun L i wr => ∃ k : Nat, k ≤ K ∧ i = .int .i64 k ∧ ∃ A' n' c', L = .slice A' n' c' ∧ Hid (ES wr A' n' (ltr (fun _ => true) k)) ∧ Hid (n' ≤ c' ∧ c' ≤ 9223372036854775807) ∧
    Hid (BB wr g 20 (fun i => decide (i < k))) ∧ Hid (BS wr A n l) ∧ Hid (Below w.heap.size w wr)) (fun _ i _ => K - (intOf i).toNat)
  case atStart => exact ⟨0, by omega, rfl, none, 0, 0, rfl, ES.nil, ⟨Nat.le_refl _, Nat.zero_le _⟩, HB2, HS2, HW2⟩
  case round =>
    obtain ⟨k, hk, rfl, A', n', c', rfl, HE, HC, HB, HSr, HWr⟩ := hrel
    clear HB2 HS2 HW2 HS
    by_cases hlt : k < K
    · have hlt' : (k : Int) < (K : Int) := by omega
      have q1 : IntKind.u64.wrap (k : Int) = k := wrap_u64 (by omega) (by omega)
      have q2 : IntKind.u64.wrap ((k : Int) + 5) = (k : Int) + 5 := wrap_u64 (by omega) (by omega)
      have q3 : IntKind.u8.wrap (k : Int) = k := wrap_u8 (by omega) (by omega)
      have q4 : IntKind.u8.wrap (97 + (k : Int)) = 97 + (k : Int) := wrap_u8 (by omega) (by omega)
      have HNB : Hid (97 + (k : Int) = ((nb k).toNat : Int)) := (nb_int (by omega)).symm
      have HBM := Lib.hid (built_mk k)
      have HNL : Hid (n' ≤ 20) := by show _ ≤ _; rw [← HE.out.1]; exact Nat.le_trans (ltr_len _ _) (by omega)
      go_wp2_with (first
        | (refine wpList_byte1 rfl (.tmp 40) rfl (nb k) (congrArg (Value.int .u8) HNB.out) ?_
           intro w3 hs3 hb3
           have HX3 := Lib.hid hs3
           have HW3 := Lib.hid (HWr.out.trans (hb3.mono HWr.out.size))
           have HE3 := Lib.hid (HE.out.below hb3)
           have HB3 := Lib.hid (HB.out.below hb3)
           have HS3 := Lib.hid (HSr.out.below hb3)
           clear hs3 hb3)
        | (refine wpList_conv_bs rfl (.tmp 41) rfl _ 1 1 [nb k] rfl HX3.out ?_)
        | (refine Did.list rfl (did_build 41 #[(0, .tmp 37), (2, .tmp 42)] rfl (ec (mkE k)).toArray HBM.out) ?_))
      refine (add_any A' n' c' (ltr (fun _ => true) k) (mkE k) w3 HE3.out (ltr_wide (by omega)) (mkE_wide (by omega)) (by have := HNL.out; omega)).mono ?_
      rintro en w4 ⟨A4, n4, c4, rfl, hes4, hc4, hb4⟩
      rw [(ltr_add k (by omega) (fun _ => true) rfl).1]
      rw [(ltr_add k (by omega) (fun _ => true) rfl).2] at hes4
      have HC4 := Lib.hid hc4
      have HW4 := Lib.hid (HW3.out.trans (hb4.mono HW3.out.size))
      have HE4 := Lib.hid hes4
      have HB4 := Lib.hid (HB3.out.below hb4)
      have HS4 := Lib.hid (HS3.out.below hb4)
      clear hes4 hc4 hb4 HW3 HE3 HB3 HS3 HWr HE HB HSr HX3 HBM HNB HC
      have c1 := HB4.out.cell (k := k) (by omega)
      have c2 := HB4.out.froz k
      have hk20 : (k : Int) < 20 := by omega
      go_wp2_with fail
      go_roundw
      case rel =>
        refine ⟨k + 1, by omega, by go_num, A4, n4, c4, rfl, ?_, HC4, ?_, ?_, ?_⟩
        · exact HE4.out.off HB4.out.nostr (set_keep _ _ _ _)
        · have := HB4.out.set k true
          rw [upd_lt] at this
          exact this
        · exact HS4.out.off (fun o z => by rw [cell_of_row _ _ _ _ _ _ HB4.out]; by_cases hk : o < 20 <;> simp [bcs, hk]) fun k _ hk' => (set_keep _ _ _ _).block k hk'
        · exact HW4.out.setCell (p := ⟨g, k, none⟩) HG.out _
      case measure => simp [intOf]; omega
    · obtain rfl : k = K := by omega
      have HB0 : Hid (BB wr g 20 (fun i => decide (i < k))) := HB
      have HE0 : Hid (ES wr A' n' (ltr (fun i => decide (i < k)) 20)) := by
        show ES _ _ _ _
        rw [ltr_init k 20 (by omega), ltr_congr (q := fun _ => true) (fun i hi => by simpa using hi)]
        exact HE.out
      clear HB HE hk hlt hK
      generalize (fun i => decide (i < k)) = p0 at *
      go_wp2_with fail
      go_loopw [7, 12] (fun L i ws => ∃ m : Nat, m ≤ n ∧ i = .int .i64 m ∧ ∃ p A' n' c', L = .slice A' n' c' ∧ Hid (ES ws A' n' (ltr p 20)) ∧ Hid (n' ≤ c' ∧ c' ≤ 9223372036854775807) ∧
        Hid (BB ws g 20 p) ∧ Hid (BS ws A n l) ∧ Hid (Below w.heap.size w ws)) (fun _ i _ => n - (intOf i).toNat)
      case atStart => exact ⟨0, by omega, rfl, p0, A', n', c', rfl, HE0, HC, HB0, HSr, HWr⟩
      case round =>
        clear HE0 HC HB0 HSr HWr
        obtain ⟨m, hm, rfl, p, A5, n5, c5, rfl, HE, HC, HB, HSr, HWr⟩ := hrel
        by_cases hlt : m < n
        · have hlt' : (m : Int) < (n : Int) := by omega
          obtain ⟨bb, oo, rfl, hlb, hc0⟩ := HSr.out.at hlt
          generalize l[m] = z at hc0
          obtain ⟨G, hG, hzG⟩ : ∃ G : Nat, G < 20 ∧ (z.toNat : Int) % 20 = G := ⟨z.toNat % 20, Nat.mod_lt _ (by omega), by simp⟩
          have hG20 : (G : Int) < 20 := by omega
          have q1 : IntKind.u8.wrap (G : Int) = G := wrap_u8 (by omega) (by omega)
          have q2 : IntKind.i64.wrap (G : Int) = G := IntWalk.i64_in _ (by omega)
          have q4 : IntKind.u8.wrap (97 + (G : Int)) = 97 + (G : Int) := wrap_u8 (by omega) (by omega)
          have htm : Int.tmod (z.toNat : Int) 20 = (G : Int) := by rw [← hzG]; exact Int.tmod_eq_emod_of_nonneg (by omega)
          have HNB : Hid (97 + (G : Int) = ((nb G).toNat : Int)) := (nb_int (by omega)).symm
          have HNL : Hid (n5 ≤ 20) := by show _ ≤ _; rw [← HE.out.1]; exact ltr_len _ _
          have HREM := Lib.hid (ltr_rem p (k := G) (n := 20) hG (by omega))
          clear hzG
          go_wp2_with (first
            | (refine wpList_byte1 rfl (.tmp 69) rfl (nb G) (congrArg (Value.int .u8) HNB.out) ?_
               intro w3 hs3 hb3
               have HX3 := Lib.hid hs3
               have HW3 := Lib.hid (HWr.out.trans (hb3.mono HWr.out.size))
               have HE3 := Lib.hid (HE.out.below hb3)
               have HB3 := Lib.hid (HB.out.below hb3)
               have HS3 := Lib.hid (HSr.out.below hb3)
               clear hs3 hb3)
            | (refine wpList_conv_bs rfl (.tmp 70) rfl _ 1 1 [nb G] rfl HX3.out ?_))
          refine (remove_any A5 n5 c5 (ltr p 20) [nb G] w3 HE3.out HC.out.1 HC.out.2 (by have := HNL.out; omega)).mono ?_
          rintro en w4 ⟨A4, n4, c4, rfl, hes4, hc4, hb4⟩
          rw [HREM.out.1]
          have HC4 := Lib.hid hc4
          have HW4 := Lib.hid (HW3.out.trans (hb4.mono HW3.out.size))
          have HE4 := Lib.hid hes4
          have HL4 := Lib.hid (HE3.out.below hb4)
          have HB4 := Lib.hid (HB3.out.below hb4)
          have HS4 := Lib.hid (HS3.out.below hb4)
          clear hes4 hc4 hb4 HW3 HE3 HB3 HS3 HWr HE HB HSr HX3 HNB hc0
          have c1 := HB4.out.cell (k := G) (by omega)
          have c2 := HB4.out.froz G
          cases hp : p G
          · rw [hp] at c1
            simp only [if_false, Bool.false_eq_true]
            go_wp2_with fail
            go_roundw
            case rel => exact ⟨m + 1, by omega, by go_num, p, A5, n5, c5, rfl, HL4, HC, HB4, HS4, HW4⟩
            case measure => simp [intOf]; omega
          · rw [hp] at c1
            have HE5 : Hid (ES w4 A4 n4 (ltr (upd p G false) 20)) := by
              show ES _ _ _ _
              rw [← HREM.out.2 hp]
              exact HE4.out
            simp only [if_true]
            clear HREM HE4 HL4
            go_wp2_with fail
            go_roundw
            case rel =>
              refine ⟨m + 1, by omega, by go_num, upd p G false, A4, n4, c4, rfl, ?_, HC4, ?_, ?_, ?_⟩
              · exact HE5.out.off HB4.out.nostr (set_keep _ _ _ _)
              · exact HB4.out.set G false
              · exact HS4.out.off (fun o z => by rw [cell_of_row _ _ _ _ _ _ HB4.out]; by_cases hk : o < 20 <;> simp [bcs, hk]) fun k _ hk' => (set_keep _ _ _ _).block k hk'
              · exact HW4.out.setCell (p := ⟨g, G, none⟩) HG.out _
            case measure => simp [intOf]; omega
        · obtain rfl : m = n := by omega
          clear hlt hm
          go_wp2_with fail
          have HNL : Hid (n5 = (ltr p 20).length) := HE.out.1.symm
          have HN5 : Hid (n5 ≤ 20) := by show _ ≤ _; rw [HNL.out]; exact ltr_len _ _
          go_loop [16, 17] (fun a i => ∃ k : Nat, k ≤ 20 ∧ i = .int .i64 k ∧ a = .int .i64 ((ltr p k).length : Nat)) (fun _ i => 20 - (intOf i).toNat)
          case atStart => exact ⟨0, by omega, rfl, rfl⟩
          case round =>
            obtain ⟨k, hk, rfl, rfl⟩ := hrel
            by_cases hlt : k < 20
            · have hk20 : (k : Int) < 20 := by omega
              have c1 := HB.out.cell (k := k) hlt
              have HSU := Lib.hid (ltr_succ p k)
              cases hp : p k
              · rw [hp] at c1
                rw [hp] at HSU
                go_wp2_with fail
                go_round
                case rel => exact ⟨k + 1, by omega, by go_num, by rw [HSU.out]; simp⟩
                case measure => simp [intOf]; omega
              · rw [hp] at c1
                rw [hp] at HSU
                obtain ⟨hj, hat⟩ := ltr_at p hlt hp
                have HLL : Hid ((ltr p (k + 1)).length = (ltr p k).length + 1) := by show _ = _; rw [HSU.out]; simp
                generalize (ltr p k).length = q at *
                rw [← HNL.out] at hj
                have hj' : (q : Int) < (n5 : Int) := by omega
                have r7 : IntKind.i64.wrap ((q : Int) + 1) = (q : Int) + 1 := IntWalk.i64_in _ (by have := HN5.out; omega)
                obtain ⟨b5, o5, rfl, _, hj5, hc5⟩ := HE.out.at hj
                rw [hat] at hc5
                have k0 : wr.cell? ⟨b5, o5 + q * 4, none⟩ = some (.int .u64 ((k : Int) + 5)) := hc5 0 _ rfl
                have k3 : wr.cell? ⟨b5, o5 + q * 4 + 3, none⟩ = some (.string (txt [nb k])) := hc5 3 _ rfl
                have r1 : IntKind.u64.wrap (k : Int) = k := wrap_u64 (by omega) (by omega)
                have r2 : IntKind.u64.wrap ((k : Int) + 5) = (k : Int) + 5 := wrap_u64 (by omega) (by omega)
                have r3 : IntKind.u8.wrap (k : Int) = k := wrap_u8 (by omega) (by omega)
                have r4 : IntKind.u8.wrap (97 + (k : Int)) = 97 + (k : Int) := wrap_u8 (by omega) (by omega)
                have r5 : (txt [nb k]).size = 1 := rfl
                have r6 : (((txt [nb k])[0]'(by rw [r5]; omega)).toNat : Int) = 97 + (k : Int) := nb_int (by omega)
                clear hc5 hat hj5
                go_wp2_with fail
                go_round
                case rel => exact ⟨k + 1, by omega, by go_num, by rw [HLL.out]; go_num⟩
                case measure => simp [intOf]; omega
            · obtain rfl : k = 20 := by omega
              rw [← HNL.out]
              go_wp2_with fail
              go_ret
              exact ⟨rfl, HWr.out⟩
end Go.Proofs.Ytcbmdcgaedkfnaa
