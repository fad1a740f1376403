/-
  The walk of CrcParts: the sum of bytes is the sum of their parts, one behind the other; a byte that is another one lets it be another one: the law's function returns true for every input.
-/
import Derived.Test.YtlnnokjkohcdnaaCBurst
namespace Go.Proofs.Ytlnnokjkohcdnaa
open Go.RowKit

theorem xor8 (a b : UInt8) : bits .xor .u8 (a.toNat : Int) (b.toNat : Int) = ((a ^^^ b).toNat : Int) := by
  rw [u8_xor_nat _ _ a.toNat_lt b.toNat_lt, UInt8.toNat_xor]
theorem sum_parts (l : List UInt8) (k : Nat) : more (sum (l.take k)) (l.drop k) = sum l := by
  unfold sum
  rw [more_more, List.take_append_drop]
theorem sum_set (l : List UInt8) (k : Nat) (v : UInt8) (hk : k < l.length) (h : sum (l.set k v) = sum l) : v = l[k] := by
  have e1 : l.set k v = l.take k ++ v :: l.drop (k + 1) := by rw [List.set_eq_take_append_cons_drop, if_pos hk]
  have e2 : l = l.take k ++ l[k] :: l.drop (k + 1) := by rw [List.getElem_cons_drop, List.take_append_drop]
  have h2 := not_inj h
  rw [e1] at h2
  conv at h2 => rhs; rw [e2]
  rw [raw_append, raw_append] at h2
  exact ad_inj2 (raw_inj (l := l.drop (k + 1)) h2)
theorem xor_self8 (a x : UInt8) (h : a ^^^ x = a) : x = 0 := by
  have : a ^^^ (a ^^^ x) = a ^^^ a := by rw [h]
  simpa [← UInt8.xor_assoc] using this

theorem moreAt (w W : World) (b o n c k : Nat) (l : List UInt8) (h : RInv w (some ⟨b, o, none⟩) n l W) (hk : k < n) (hnc : n ≤ c) (hn : n ≤ 3000000) :
    Calls Try.prog 11 #[.int .u32 ((sum (l.take k)).toNat : Int), .slice (some ⟨b, o + k, none⟩) (n - k) (c - k)] W fun e w' => e = .returned (.int .u32 ((sum l).toNat : Int)) ∧ RInv w (some ⟨b, o, none⟩) n l w' := by
  have hd := h.2.drop (k := k) (c := c) (by omega) hnc
  rw [if_neg (by omega)] at hd
  have ha : Option.map (fun x => Addr.add x k) (some (⟨b, o, none⟩ : Addr)) = some ⟨b, o + k, none⟩ := by rw [Option.map_some, add_plain]
  rw [ha] at hd
  refine (more_any (sum (l.take k)) _ _ _ (l.drop k) W hd (by omega)).mono fun _ _ ⟨h1, h2⟩ => ⟨?_, h.step h2⟩
  rw [h1, sum_parts]
theorem more7 (w W : World) (A : Option Addr) (n : Nat) (l : List UInt8) (h : RInv w A n l W) :
    Calls Try.prog 11 #[.int .u32 7, .slice none 0 0] W fun e w' => e = .returned (.int .u32 7) ∧ RInv w A n l w' :=
  (more_any 7#32 none 0 0 [] W BS.nil (by omega)).mono fun _ _ ⟨h1, h2⟩ => ⟨h1.trans (by rw [more_nil]; rfl), h.step h2⟩
theorem ofWhole (w W : World) (A : Option Addr) (n c : Nat) (l : List UInt8) (h : RInv w A n l W) (hn : n ≤ 3000000) :
    Calls Try.prog 9 #[.slice A n c] W fun e w' => e = .returned (.int .u32 ((sum l).toNat : Int)) ∧ RInv w A n l w' :=
  (of_any A n c l W h.2 hn).mono fun _ _ ⟨h1, h2⟩ => ⟨h1, h.step h2⟩

set_option maxRecDepth 100000 in
set_option maxHeartbeats 4000000 in
theorem parts_walk (A : Option Addr) (n c : Nat) (l : List UInt8) (m : Nat) (x : UInt8) (w : World) (hb : BS w A n l) (hnc : n ≤ c) (hm : m ≤ 65535) :
    Calls Try.prog 5 #[.slice A n c, .int .u16 (m : Int), .int .u8 (x.toNat : Int)] w fun e w' => e = .returned (.bool true) ∧ Below w.heap.size w w' := by
  have HA := Lib.hid (awake_any w)
  obtain ⟨i0, hi0, hz0, hz1, hz2⟩ := info_parts info_u8
  have HB := Lib.hid hb
  have Hn : Hid (l.length = n) := hb.1
  clear hb
  by_cases h0 : n = 0
  · subst h0
    go_enter Try.func5, Try.ntmps5
    go_wp2_with fail
    refine HA.out.mono ?_
    rintro e w1 ⟨rfl, hw1⟩
    have HW1 := Lib.hid hw1
    clear hw1
    go_wp2_with fail
    go_ret
    exact ⟨rfl, HW1.out⟩
  by_cases h400 : 400 < n
  · go_enter Try.func5, Try.ntmps5
    have hd0 : ((n : Int) == 0) = false := by simp; omega
    have hd : decide ((400 : Int) < (n : Int)) = true := by simp; omega
    go_wp2_with fail
    refine HA.out.mono ?_
    rintro e w1 ⟨rfl, hw1⟩
    have HW1 := Lib.hid hw1
    clear hw1
    go_wp2_with fail
    go_ret
    exact ⟨rfl, HW1.out⟩
  · go_enter Try.func5, Try.ntmps5
    have hd0 : ((n : Int) == 0) = false := by simp; omega
    have hd : decide ((400 : Int) < (n : Int)) = false := by simp; omega
    obtain ⟨b, o, rfl, hcs⟩ := HB.out.2 (by omega)
    clear hcs
    go_wp2_with fail
    refine HA.out.mono ?_
    rintro e w1 ⟨rfl, hw1⟩
    have HI : Hid (RInv w (some ⟨b, o, none⟩) n l w1.drew) := RInv.drew ⟨hw1, HB.out.below hw1⟩
    clear hw1 HA
    have Hk : Hid ((m : Int) % (n : Int) = ((m % n : Nat) : Int)) := by show _ = _; rw [Int.natCast_emod]
    have hk : m % n < n := Nat.mod_lt _ (by omega)
    go_wp2_with fail
    rw [Hk.out]
    generalize m % n = k at *
    go_cut [40] (fun s W => s = .bool false ∧ Hid (RInv w (some ⟨b, o, none⟩) n l W))
    case first =>
      go_region_with
        (first
          | (go_at_call_of 9 (Value.slice (some ⟨b, o, none⟩) k c)
             refine (of_at w _ (some ⟨b, o, none⟩) n c k l (Hid.out (p := RInv w (some ⟨b, o, none⟩) n l _) (by assumption)) (by omega) (by omega)).mono ?_
             rintro e w5 ⟨rfl, h5⟩
             have I5 := Lib.hid h5
             clear h5)
          | (go_at_call_of 9 (Value.slice (some ⟨b, o, none⟩) n c)
             refine (ofWhole w _ (some ⟨b, o, none⟩) n c l (Hid.out (p := RInv w (some ⟨b, o, none⟩) n l _) (by assumption)) (by omega)).mono ?_
             rintro e w5 ⟨rfl, h5⟩
             have I5 := Lib.hid h5
             clear h5)
          | (go_at_call_of 11 (Value.slice none 0 0)
             refine (more7 w _ (some ⟨b, o, none⟩) n l (Hid.out (p := RInv w (some ⟨b, o, none⟩) n l _) (by assumption))).mono ?_
             rintro e w5 ⟨rfl, h5⟩
             have I5 := Lib.hid h5
             clear h5)
          | (go_at_call 11
             refine (moreAt w _ b o n c k l (Hid.out (p := RInv w (some ⟨b, o, none⟩) n l _) (by assumption)) (by omega) hnc (by omega)).mono ?_
             rintro e w5 ⟨rfl, h5⟩
             have I5 := Lib.hid h5
             clear h5))
      all_goals
        go_wp2_with fail
        go_meet
        exact ⟨rfl, by assumption⟩
    case rest =>
      clear HI
      obtain ⟨rfl, HI⟩ := hcut
      have hsz := HI.out.1.size
      have hkl : k < l.length := by rw [Hn.out]; exact hk
      go_upto_region 11 with
        (at_builtin
         refine wpList_append_bytes _ rfl (.tmp 41) (.tmp 42) 23 rfl w.heap.size 5 i0 Try.underlying23 hi0 hz0 hz1 hz2 none 0 0 [] rfl (World.ownsRow_nil _ _ _ _)
            (some ⟨b, o, none⟩) n c l rfl HI.out.2 (by omega) hsz ?_
         intro A' c' w3 hown hgrow hat)
      have HO3 : Hid (Own w w3 A' n c' l) := ⟨by simpa using hown, HI.out.1.grown hgrow hsz (fun k hk => by simp [Value.ownBlock] at hk)⟩
      clear hown hgrow hat HI
      obtain ⟨g, rfl, hblk⟩ := HO3.out.blk (by omega) w (Below.refl _ _)
      have hc3 := HO3.out.cap
      have hcell := hblk.cell k hkl
      have hfroz := hblk.froz k
      have HX := Lib.hid (xor8 l[k] x)
      have HK4 := Lib.hid (hblk.set k (l[k] ^^^ x) hkl)
      clear hblk HO3
      have HL4 : Hid ((l.set k (l[k] ^^^ x)).length = n) := by show _ = _; rw [List.length_set, Hn.out]
      have HV : Hid ((sum (l.set k (l[k] ^^^ x)) = sum l) ↔ x = 0) := by
        constructor
        · intro h
          exact xor_self8 _ _ (sum_set l k _ hkl h)
        · rintro rfl
          simp
      go_wp2_with fail
      rw [HX.out]
      generalize w3.setCell ⟨g, k, none⟩ (.int .u8 ((l[k] ^^^ x).toNat : Int)) = w4 at *
      generalize l.set k (l[k] ^^^ x) = l4 at *
      have HS4 : Hid (BS w4 (some ⟨g, 0, none⟩) n l4) := by
        have := HK4.out.bs
        rw [HL4.out] at this
        exact this
      clear hcell hfroz
      refine (of_any (some ⟨g, 0, none⟩) n c' l4 w4 HS4.out (by omega)).mono ?_
      rintro e w5 ⟨rfl, hb5⟩
      have HW5 := Lib.hid (HK4.out.1.trans (hb5.mono HK4.out.1.size))
      clear hb5 HK4 HS4
      go_wp2_with fail
      refine (of_any (some ⟨b, o, none⟩) n c l w5 (HB.out.below HW5.out) (by omega)).mono ?_
      rintro e w6 ⟨rfl, hb6⟩
      have HW6 := Lib.hid (HW5.out.trans (hb6.mono HW5.out.size))
      clear hb6 HW5
      by_cases hx : x = 0
      · have t1 : (((sum l4).toNat : Int) == ((sum l).toNat : Int)) = true := by rw [HV.out.2 hx]; simp
        have t2 : ((x.toNat : Int) == 0) = true := by rw [hx]; rfl
        clear hx
        go_wp2_with fail
        go_ret
        exact ⟨rfl, HW6.out⟩
      · have t1 : (((sum l4).toNat : Int) == ((sum l).toNat : Int)) = false := by
          rw [beq_eq_false_iff_ne]
          intro h
          exact hx (HV.out.1 (BitVec.eq_of_toNat_eq (by omega)))
        have t2 : ((x.toNat : Int) == 0) = false := by
          rw [beq_eq_false_iff_ne]
          intro h
          exact hx (UInt8.toNat_inj.1 (by simp; omega))
        clear hx
        go_wp2_with fail
        go_ret
        exact ⟨rfl, HW6.out⟩
end Go.Proofs.Ytlnnokjkohcdnaa
