/-
  The walk of DiskPicks.
-/
import Derived.Test.YthokobooekmegaaDAwake
namespace Go.Proofs.Ythokobooekmegaa
open Go.RowKit

/-- The writes of DiskPicks. -/
def wl (k : Nat) : List (Int × List UInt8) := (List.range k).map fun (j : Nat) => ((j : Int), fl [9, UInt8.ofNat j])
theorem wl_len (k : Nat) : (wl k).length = k := by simp [wl]
theorem wl_succ (k : Nat) : wl (k + 1) = wl k ++ [((k : Int), fl [9, UInt8.ofNat k])] := by simp [wl, List.range_succ]
theorem wl_get {k j : Nat} (h : j < k) : (wl k)[j]? = some ((j : Int), fl [9, UInt8.ofNat j]) := by simp [wl, h]
theorem rd_append (a b : List (Int × List UInt8)) (i : Int) (d : List UInt8) : rd (a ++ b) i d = rd b i (rd a i d) := by simp [rd, List.foldl_append]
theorem picks_read (L : List UInt8) (K i : Nat) : ∀ m, m ≤ K → rd (cho L (wl K) m) (i : Int) zs = if i < m ∧ bit L i = true then fl [9, UInt8.ofNat i] else zs
  | 0, _ => by simp [cho, rd]
  | m + 1, h => by
    have ih := picks_read L K i m (by omega)
    simp only [cho]
    rw [rd_append, ih]
    by_cases hb : bit L m = true
    · rw [if_pos hb, wl_get (by omega)]
      show (if ((m : Int) = (i : Int)) then fl [9, UInt8.ofNat m] else _) = _
      by_cases e : m = i
      · subst e
        rw [if_pos rfl, if_pos ⟨by omega, hb⟩]
      · rw [if_neg (by omega)]
        by_cases h2 : i < m ∧ bit L i = true
        · rw [if_pos h2, if_pos ⟨by omega, h2.2⟩]
        · rw [if_neg h2, if_neg (by rintro ⟨h3, h4⟩; exact h2 ⟨by omega, h4⟩)]
    · rw [if_neg hb]
      show (if i < m ∧ bit L i = true then _ else _) = _
      by_cases e : i = m
      · subst e
        rw [if_neg (by omega), if_neg (by rintro ⟨_, h4⟩; exact hb h4)]
      · by_cases h2 : i < m ∧ bit L i = true
        · rw [if_pos h2, if_pos ⟨by omega, h2.2⟩]
        · rw [if_neg h2, if_neg (by rintro ⟨h3, h4⟩; exact h2 ⟨by omega, h4⟩)]
theorem cho_len_succ (L : List UInt8) (K m : Nat) (h : m < K) : (cho L (wl K) (m + 1)).length = (cho L (wl K) m).length + if bit L m then 1 else 0 := by
  simp only [cho, List.length_append, wl_get h]
  split <;> simp
theorem cho_len_le (L : List UInt8) (l : List (Int × List UInt8)) : ∀ m d, (cho L l m).length ≤ (cho L l (m + d)).length
  | _, 0 => Nat.le_refl _
  | m, d + 1 => by
    have := cho_len_le L l m d
    rw [show m + (d + 1) = (m + d) + 1 by omega]
    simp only [cho, List.length_append]
    omega
theorem cho_len (L : List UInt8) (l : List (Int × List UInt8)) : ∀ m, (cho L l m).length ≤ m
  | 0 => by simp [cho]
  | m + 1 => by
    have := cho_len L l m
    simp only [cho, List.length_append]
    split
    · cases l[m]? <;> simp <;> omega
    · simp; omega
/-- A new disk with the first k writes. -/
def sK (K k : Nat) : DS := { DS.new K with pend := wl k }
theorem sK_succ (K k : Nat) : (sK K k).count.push (k : Int) (fl [9, UInt8.ofNat k]) = sK K (k + 1) := by
  rw [DS.count_left rfl]
  unfold DS.push sK
  rw [wl_succ]
theorem sK_read (L : List UInt8) (K i : Nat) (h : i < K) : ((sK K K).crashed L).read (i : Int) = if bit L i = true then fl [9, UInt8.ofNat i] else zs := by
  show rd (cho L (wl K) (wl K).length) (i : Int) zs = _
  rw [wl_len, picks_read L K i K (Nat.le_refl _)]
  simp [h]

theorem BS.built' (w : World) (cs : Array Value) (l : List UInt8) (n : Nat) (t : TypeId) (h : cs = (bc l).toArray) (hn : l.length = n) : BS (w.alloc (.cells cs t)) (some ⟨w.heap.size, 0, none⟩) n l := by
  subst h hn
  exact BS.built w l t
theorem byte_nat {k : Nat} (h : k < 256) : ((UInt8.ofNat k).toNat : Int) = (k : Int) := by simp; omega
theorem old_not_S {w : World} {S : Nat → Prop} {A : Option Addr} {m : Nat} {L : List UInt8} (hL : BS w A m L) (hS : ∀ j, S j → w.heap.size ≤ j) : 0 < m → ∀ ad, A = some ad → ¬ S ad.block := fun hm ad ha h => by
  have := hL.lt_block hm ad ha
  have := hS _ h
  omega

set_option maxRecDepth 100000 in
set_option maxHeartbeats 2000000 in
theorem picks_walk (n : Nat) (A : Option Addr) (m c : Nat) (L : List UInt8) (w : World) (hn : n ≤ 255) (hL : BS w A m L) (hm : m ≤ maxLen) :
    Calls Try.prog 8 #[.int .u8 (n : Int), .slice A m c] w fun e w' => e = .returned (.bool true) ∧ Below w.heap.size w w' := by
  unfold maxLen at hm
  obtain ⟨K, hK⟩ : ∃ K : Nat, K = n % 20 + 1 := ⟨_, rfl⟩
  have HK : Hid ((n : Int) % 20 + 1 = (K : Int)) := by show _ = _; omega
  have hK1 : 1 ≤ K := by omega
  have hK2 : K ≤ 20 := by omega
  have HL := Lib.hid hL
  clear hK hL
  by_cases hm8 : 8 < m
  · go_enter Try.func8, Try.ntmps8
    go_wp2_with fail
    refine (awake_any w).mono ?_
    rintro e w1 ⟨rfl, hw1⟩
    have HW1 := Lib.hid hw1
    clear hw1
    go_wp2
    go_ret
    exact ⟨rfl, HW1.out⟩
  · go_enter Try.func8, Try.ntmps8
    go_wp2_with fail
    refine (awake_any w).mono ?_
    rintro e w1 ⟨rfl, hw1⟩
    have HW1 := Lib.hid hw1
    clear hw1
    go_wp2_with fail
    rw [HK.out]
    refine (new_any K w1 hK1 (by omega)).mono ?_
    rintro e w2 ⟨p, S, rfl, hd, hb, hS⟩
    have HD : Hid (Dk w2 p S (sK K 0)) := hd
    have HB : Hid (Below w.heap.size w w2) := HW1.out.trans (hb.mono HW1.out.size)
    have HS : Hid (∀ k, S k → w.heap.size ≤ k) := fun k hk => Nat.le_trans HW1.out.size (hS k hk)
    clear hd hb hS
    go_wp2_with fail
    go_loopw [9] (fun i wr => ∃ k : Nat, k ≤ K ∧ i = .int .i64 k ∧ Hid (∃ S, Dk wr p S (sK K k) ∧ ∀ j, S j → w.heap.size ≤ j) ∧ Hid (Below w.heap.size w wr)) (fun i _ => K - (intOf i).toNat)
    case atStart => exact ⟨0, by omega, rfl, ⟨S, HD.out, HS.out⟩, HB⟩
    case round =>
      obtain ⟨k, hk, rfl, HDK, HBK⟩ := hrel
      by_cases hlt : k < K
      · have HBT : Hid (#[Value.int .u8 9, Value.int .u8 (k : Int)] = (bc [9, UInt8.ofNat k]).toArray) := by show _ = _; simp only [bc, List.map_cons, List.map_nil]; rw [byte_nat (by omega)]; rfl
        go_wp2_with fail
        refine (full_any _ 2 _ [9, UInt8.ofNat k] false _ (BS.built' wr _ _ 2 5 HBT.out rfl) (by unfold maxLen; omega)).mono ?_
        rintro e w4 ⟨rfl, hb4, hw4⟩
        have HW4 : Hid (Below wr.heap.size wr w4) := ((Below.refl _ wr).alloc (Nat.le_refl _) _).trans (hw4.mono (by simp))
        have HB4 := Lib.hid hb4
        clear hb4 hw4
        simp only [World.size_alloc] at HB4 ⊢
        obtain ⟨S3, hd3, hS3⟩ := HDK.out
        have HD3 := Lib.hid hd3
        have HS3 := Lib.hid hS3
        clear hd3 hS3
        have HPL : Hid ((sK K k).pend.length ≤ 1000000) := by show (wl k).length ≤ _; rw [wl_len]; omega
        go_wp2_with fail
        refine (write_up p S3 (sK K k) k _ 128 (fl [9, UInt8.ofNat k]) w4 (HD3.out.below HW4.out) HPL.out (refus_ok rfl (by omega) (by show (k : Int) < (K : Int); omega)) (block_BS HB4.out (fl_len _)) (not_S HD3.out.2.1 (by omega)) (DS.count_down rfl rfl)).mono ?_
        rw [sK_succ]
        rintro e w5 ⟨rfl, S5, hd5, hf5, hS5⟩
        have HD5 := Lib.hid hd5
        have HB5 : Hid (Below w.heap.size w w5) := (HBK.out.trans (HW4.out.mono HBK.out.size)).trans (hf5.below (Nat.le_trans HBK.out.size HW4.out.size) HS3.out)
        have HS5 : Hid (∀ j, S5 j → w.heap.size ≤ j) := fun j hj => by
          rcases hS5 j hj with h | h
          · exact HS3.out j h
          · have := HBK.out.size; have := HW4.out.size; omega
        clear hd5 hf5 hS5
        go_wp2
        go_roundw
        case rel => exact ⟨k + 1, by omega, by go_num, ⟨S5, HD5.out, HS5.out⟩, HB5⟩
        case measure => simp [intOf]; omega
      · obtain rfl : k = K := by omega
        obtain ⟨S3, hd3, hS3⟩ := HDK.out
        have HD3 := Lib.hid hd3
        have HS3 := Lib.hid hS3
        clear hd3 hS3 hlt
        have HPL : Hid ((sK k k).pend.length ≤ 1000000) := by show (wl k).length ≤ _; rw [wl_len]; omega
        go_wp2_with fail
        refine (crash_any p S3 (sK k k) A m c L wr HD3.out HPL.out (HL.out.below HBK.out |> fun h => h) (old_not_S HL.out HS3.out) (by unfold maxLen; omega)).mono ?_
        rintro e w5 ⟨rfl, hd5, hf5⟩
        have HD5 := Lib.hid hd5
        have HB5 : Hid (Below w.heap.size w w5) := HBK.out.trans (hf5.below HBK.out.size HS3.out)
        have HCL : Hid ((cho L (sK k k).pend (sK k k).pend.length).length = (cho L (wl k) k).length) := by show (cho L (wl k) (wl k).length).length = _; rw [wl_len]
        rw [HCL.out]
        have hcl := cho_len L (wl k) k
        clear hd5 hf5
        go_wp2_with fail
        have HRD : Hid (∀ j, j < k → ((sK k k).crashed L).read (j : Int) = if bit L j = true then fl [9, UInt8.ofNat j] else zs) := fun j hj => sK_read L k j hj
        have HPN : Hid (((sK k k).crashed L).pend.length ≤ 1000000) := by show 0 ≤ _; omega
        have HRF : Hid (∀ j, j < k → refus ((sK k k).crashed L) (j : Int) = 0) := fun j hj => refus_ok rfl (by omega) (by show (j : Int) < (k : Int); omega)
        generalize (sK k k).crashed L = s5 at *
        go_loopw [10, 11] (fun many i wr => ∃ j : Nat, j ≤ k ∧ i = .int .i64 j ∧ many = .int .i64 (((cho L (wl k) k).length : Int) - ((cho L (wl k) j).length : Int)) ∧ Hid (Dk wr p S3 s5) ∧ Hid (Below w.heap.size w wr)) (fun _ i _ => k - (intOf i).toNat)
        case atStart => exact ⟨0, by omega, rfl, by simp [cho], HD5, HB5⟩
        case round =>
          clear HDK HBK HD3 HD5 HB5 HD HB
          obtain ⟨j, hj, rfl, rfl, HDJ, HBJ⟩ := hrel
          by_cases hjk : j < k
          · have hle := cho_len_le L (wl k) (j + 1) (k - (j + 1))
            have hle0 := cho_len_le L (wl k) j (k - j)
            rw [show j + 1 + (k - (j + 1)) = k by omega] at hle
            rw [show j + (k - j) = k by omega] at hle0
            have HCS := Lib.hid (cho_len_succ L k j hjk)
            have HRJ := Lib.hid (HRD.out j hjk)
            have HFJ := Lib.hid (HRF.out j hjk)
            have HN9 : Hid (((UInt8.ofNat j).toNat : Int) = (j : Int)) := byte_nat (by omega)
            by_cases hq : j / 8 < m
            · obtain ⟨b, o, rfl, hjl, hcell⟩ := (HL.out.below HBJ.out).at hq
              have hqi : (j : Int) / 8 < (m : Int) := by omega
              have hba := bit_at hjl
              cases hb : bit L j with
              | true =>
                rw [hb] at hba
                have HCS' : Hid ((cho L (wl k) (j + 1)).length = (cho L (wl k) j).length + 1) := by show _ = _; rw [HCS.out, hb]; rfl
                have hle1 : (cho L (wl k) j).length + 1 ≤ (cho L (wl k) k).length := by rw [← HCS'.out]; exact hle
                have HR1 : Hid (s5.read (j : Int) = fl [9, UInt8.ofNat j]) := by show _ = _; rw [HRJ.out, hb]; rfl
                clear hle HCS HRJ hb
                go_wp2_with fail
                refine (read_any p S3 s5 j wr HDJ.out HPN.out HFJ.out).mono ?_
                rw [HR1.out]
                rintro e w7 ⟨g7, rfl, hb7, hg7, hw7⟩
                have HW7 := Lib.hid hw7
                have hc0 : w7.cell? ⟨g7, 0, none⟩ = some (.int .u8 9) := block_cell (b := 9) hb7 rfl
                have hc1 : w7.cell? ⟨g7, 1, none⟩ = some (.int .u8 (j : Int)) := by rw [← HN9.out]; exact block_cell hb7 rfl
                clear hb7 hw7
                go_wp2
                go_roundw
                case rel => exact ⟨j + 1, by omega, by go_num, by rw [HCS'.out]; go_num, HDJ.out.below HW7.out, HBJ.out.trans (HW7.out.mono HBJ.out.size)⟩
                case measure => simp [intOf]; omega
              | false =>
                rw [hb] at hba
                have HCS' : Hid ((cho L (wl k) (j + 1)).length = (cho L (wl k) j).length) := by show _ = _; rw [HCS.out, hb]; rfl
                have HR1 : Hid (s5.read (j : Int) = zs) := by show _ = _; rw [HRJ.out, hb]; rfl
                clear hle HCS HRJ hb
                go_wp2_with fail
                refine (read_any p S3 s5 j wr HDJ.out HPN.out HFJ.out).mono ?_
                rw [HR1.out]
                rintro e w7 ⟨g7, rfl, hb7, hg7, hw7⟩
                have HW7 := Lib.hid hw7
                have hc0 : w7.cell? ⟨g7, 0, none⟩ = some (.int .u8 0) := block_cell (b := 0) hb7 rfl
                clear hb7 hw7
                go_wp2
                go_roundw
                case rel => exact ⟨j + 1, by omega, by go_num, by rw [HCS'.out], HDJ.out.below HW7.out, HBJ.out.trans (HW7.out.mono HBJ.out.size)⟩
                case measure => simp [intOf]; omega
            · have hqi : ¬ (j : Int) / 8 < (m : Int) := by omega
              have hb : bit L j = false := bit_none (by rw [HL.out.1]; omega)
              have HCS' : Hid ((cho L (wl k) (j + 1)).length = (cho L (wl k) j).length) := by show _ = _; rw [HCS.out, hb]; rfl
              have HR1 : Hid (s5.read (j : Int) = zs) := by show _ = _; rw [HRJ.out, hb]; rfl
              have hqd : decide ((j : Int) / 8 < (m : Int)) = false := by simpa using hqi
              clear hle HCS HRJ hb
              go_wp2_with fail
              refine (read_any p S3 s5 j wr HDJ.out HPN.out HFJ.out).mono ?_
              rw [HR1.out]
              rintro e w7 ⟨g7, rfl, hb7, hg7, hw7⟩
              have HW7 := Lib.hid hw7
              have hc0 : w7.cell? ⟨g7, 0, none⟩ = some (.int .u8 0) := block_cell (b := 0) hb7 rfl
              clear hb7 hw7
              go_wp2
              go_roundw
              case rel => exact ⟨j + 1, by omega, by go_num, by rw [HCS'.out], HDJ.out.below HW7.out, HBJ.out.trans (HW7.out.mono HBJ.out.size)⟩
              case measure => simp [intOf]; omega
          · obtain rfl : j = k := by omega
            have HZ : Hid (((cho L (wl j) j).length : Int) - ((cho L (wl j) j).length : Int) = 0) := by show _ = _; omega
            rw [HZ.out]
            go_wp2
            go_ret
            exact ⟨rfl, HBJ.out⟩
end Go.Proofs.Ythokobooekmegaa
