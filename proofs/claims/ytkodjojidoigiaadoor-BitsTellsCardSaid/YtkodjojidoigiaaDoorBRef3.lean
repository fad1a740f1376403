/-
  The document's answers for layer 6: Draw.
-/
import Derived.Test.YtkodjojidoigiaaDoorBRef2
namespace Go.Proofs.YtkodjojidoigiaaDoor
open Go.RowKit

/-- A row of numbers of the call's own. -/
theorem NS.of_own {w : World} {base : Nat} {A : Option Addr} {n c : Nat} {l : List Nat} (h : w.ownsRow base 3 1 (.slice A n c) n (ic l)) : NS w A n l := by
  have hl : l.length = n := by have := h.1; rw [ic_length] at this; omega
  refine ⟨hl, fun hn => ?_⟩
  obtain ⟨g, cap, hv, _⟩ := h.form hn
  injection hv with hA _ _
  subst hA
  exact ⟨g, 0, rfl, fun j hj => by
    have := h.cells (g := g) rfl j (.int .i64 (l[j] : Int)) (by simp [ic, hj])
    rwa [add_plain] at this⟩
/-- What the document's Draw hands back. -/
def RDP (l : List UInt8) (N many : Int) (w : World) (e : Ending) (w' : World) : Prop := ∃ A k c, e = .returned (.tuple #[.slice A k c, .int .i64 (Bt.drwE l N many)]) ∧ NS w' A k (Bt.drw l N many) ∧ Below w.heap.size w w'
set_option maxRecDepth 100000 in
set_option maxHeartbeats 1000000 in
theorem refDraw_any (l : List UInt8) (N many : Int) (w : World) (hN : N ≤ 1000000) (hl : l.length ≤ 100000) (hm : many ≤ 1000000) :
    Calls Tryd.prog 10 #[.string (txt l), .int .i64 N, .int .i64 many] w (RDP l N many w) := by
  by_cases h0 : many < 0
  · have HE : Hid (Bt.drwE l N many = 1 ∧ Bt.drw l N many = []) := by show _ ∧ _; unfold Bt.drwE Bt.drw; rw [if_pos h0, if_pos h0]; exact ⟨rfl, rfl⟩
    go_enter Tryd.func10, Tryd.ntmps10
    go_wp2
    go_ret2
    unfold RDP
    rw [HE.out.1, HE.out.2]
    exact ⟨none, 0, 0, rfl, ⟨rfl, fun h => absurd h (by omega)⟩, Below.refl _ _⟩
  · obtain ⟨y, rfl⟩ := Int.eq_ofNat_of_zero_le (show 0 ≤ many by omega)
    obtain ⟨ii, hii, hiz, his, hib⟩ := info_parts info_int
    have hd0 : decide ((y : Int) < 0) = false := by simp
    have hy1 : y ≤ 1000000 := by omega
    clear h0 hm
    go_enter Tryd.func10, Tryd.ntmps10
    go_wp2_with fail
    clear hd0
    go_loopw [8, 9, 10] (fun v i _ wr => ∃ k : Nat, k ≤ N.toNat ∧ i = .int .i64 k ∧ ∃ A c, v = .slice A (Bt.fr l k).length c ∧ Hid ((Bt.fr l k).length ≤ y) ∧ Hid (wr.ownsRow w.heap.size 3 1 (.slice A (Bt.fr l k).length c) (Bt.fr l k).length (ic (Bt.fr l k))) ∧ Hid (Below w.heap.size w wr)) (fun _ i _ _ => N.toNat - (intOf i).toNat)
    case atStart => exact ⟨0, by omega, rfl, none, 0, rfl, Nat.zero_le _, World.ownsRow_nil _ _ _ _, Below.refl _ _⟩
    case round =>
      obtain ⟨k, hk, rfl, A, c, rfl, HY, HO, HW⟩ := hrel
      have HNS := Lib.hid (NS.of_own HO.out)
      have hfl := Bt.fr_len_le l k
      by_cases hlt : k < N.toNat
      · have hlt' : (k : Int) < N := by omega
        by_cases hyy : (Bt.fr l k).length < y
        · have hd : decide ((Bt.fr l k).length < y) = true := by simpa using hyy
          have HFS := Lib.hid (Bt.fr_succ l k)
          go_wp2_with fail
          refine (refHas_any l k wr (by omega) (by omega)).mono ?_
          rintro e w2 ⟨rfl, rfl⟩
          rw [Bt.hasI_nat]
          cases hb : Bt.has l k
          · rw [hb] at HFS
            have HF2 : Hid (Bt.fr l (k + 1) = Bt.fr l k ++ [k]) := by show _ = _; rw [HFS.out]; rfl
            have HL2 : Hid ((Bt.fr l k).length < y) := hyy
            clear hd hyy hb HFS
            generalize Bt.fr l k = L at *
            have HROW := Lib.hid (HO.out.alloc (.cells #[.int .i64 (k : Int)] 3))
            have HNEW : Hid (∀ j u, [Value.int .i64 (k : Int)][j]? = some u → (wr.alloc (.cells #[.int .i64 (k : Int)] 3)).cell? ((⟨wr.heap.size, 0, none⟩ : Addr).add j) = some u) := cell_one_new wr _ _
            go_wp2_with (at_builtin; refine wpList_append_own _ rfl _ _ 24 rfl w.heap.size 3 ii (.int .i64 0) 1 8 Tryd.underlying24 hii hiz his hib rfl (by decide) _ L.length (ic L) rfl HROW.out ⟨wr.heap.size, 0, none⟩ 1 1 [.int .i64 (k : Int)] rfl rfl HNEW.out (fun u hu => by obtain rfl := List.mem_singleton.1 hu; rfl) (by unfold maxLen; omega) (by omega) (by have := HW.out.size; simp; omega) ?_; intro v4 w4 ho4 hg4 hnil4)
            obtain ⟨A4, c4, rfl⟩ : ∃ A4 c4, v4 = .slice A4 (L.length + 1) c4 := by
              rcases ho4.2 with ⟨_, h7⟩ | ⟨g, cap, cur, h6, _⟩
              · omega
              · exact ⟨_, _, h6⟩
            have e1 : (ic L ++ [Value.int .i64 (k : Int)]) = ic (L ++ [k]) := by simp [ic]
            rw [e1] at ho4
            have HO4 := Lib.hid ho4
            have HW4 : Hid (Below w.heap.size w w4) := (HW.out.alloc HW.out.size _).grown hg4 (by have := HW.out.size; simp; omega) (fun j hj => (HROW.out.lt j hj).1)
            clear ho4 hg4 hnil4 e1
            go_wp2
            go_roundw
            case rel =>
              refine ⟨k + 1, by omega, by go_num, A4, c4, ?_, ?_, ?_, HW4⟩
              · rw [HF2.out]; simp
              · rw [HF2.out]; show _ ≤ _; have := HL2.out; simp; omega
              · rw [HF2.out]
                have e2 : (L ++ [k]).length = L.length + 1 := by simp
                rw [e2]; exact HO4
            case measure => simp [intOf]; omega
          · rw [hb] at HFS
            have HF2 : Hid (Bt.fr l (k + 1) = Bt.fr l k) := by show _ = _; rw [HFS.out]; simp
            clear hb HFS
            go_wp2
            go_roundw
            case rel => exact ⟨k + 1, by omega, by go_num, A, c, by rw [HF2.out], by rw [HF2.out]; exact HY, by rw [HF2.out]; exact HO, HW⟩
            case measure => simp [intOf]; omega
        · have hd : decide ((Bt.fr l k).length < y) = false := by simp; omega
          have HE : Hid (Bt.drwE l N (y : Int) = 0 ∧ Bt.drw l N (y : Int) = Bt.fr l k) := by
            obtain ⟨r, hr⟩ := Bt.fr_pre l (show k ≤ N.toNat by omega)
            have h1 := HY.out
            have h2 : (Bt.fr l N.toNat).length = (Bt.fr l k).length + r.length := by rw [hr, List.length_append]
            have h0 : ¬ ((y : Int) < 0) := by omega
            have h3 : ¬ (((Bt.fr l N.toNat).length : Int) < (y : Int)) := by omega
            show _ ∧ _
            unfold Bt.drwE Bt.drw
            simp only [if_neg h0, if_neg h3, Int.toNat_natCast]
            refine ⟨trivial, ?_⟩
            rw [hr, show y = (Bt.fr l k).length by omega, List.take_left]
          go_wp2
          go_ret2
          unfold RDP
          rw [HE.out.1, HE.out.2]
          exact ⟨A, _, c, rfl, HNS.out, HW.out⟩
      · have hlt' : N ≤ (k : Int) := by omega
        have HK : Hid (k = N.toNat) := by show _ = _; omega
        by_cases hyy : (Bt.fr l k).length < y
        · have hd : decide ((Bt.fr l k).length < y) = true := by simpa using hyy
          have HE : Hid (Bt.drwE l N (y : Int) = 66 ∧ Bt.drw l N (y : Int) = []) := by
            have h0 : ¬ ((y : Int) < 0) := by omega
            have h3 : (((Bt.fr l N.toNat).length : Int) < (y : Int)) := by rw [← HK.out]; omega
            show _ ∧ _
            unfold Bt.drwE Bt.drw
            simp only [if_neg h0, if_pos h3]
            exact ⟨trivial, trivial⟩
          go_wp2
          go_ret2
          unfold RDP
          rw [HE.out.1, HE.out.2]
          exact ⟨none, 0, 0, rfl, ⟨rfl, fun h => absurd h (by omega)⟩, HW.out⟩
        · have hd : decide ((Bt.fr l k).length < y) = false := by simp; omega
          have HE : Hid (Bt.drwE l N (y : Int) = 0 ∧ Bt.drw l N (y : Int) = Bt.fr l k) := by
            have h1 := HY.out
            have h0 : ¬ ((y : Int) < 0) := by omega
            have h3 : ¬ (((Bt.fr l N.toNat).length : Int) < (y : Int)) := by rw [← HK.out]; omega
            show _ ∧ _
            unfold Bt.drwE Bt.drw
            simp only [if_neg h0, if_neg h3, Int.toNat_natCast]
            refine ⟨trivial, ?_⟩
            rw [← HK.out, List.take_of_length_le (by omega)]
          go_wp2
          go_ret2
          unfold RDP
          rw [HE.out.1, HE.out.2]
          exact ⟨A, _, c, rfl, HNS.out, HW.out⟩
end Go.Proofs.YtkodjojidoigiaaDoor
