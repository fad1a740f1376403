/-
  Contract of reaches: does a directory lie below another one? (layer 13)
-/
import Derived.Test.YtpbpdnjlomhkdaaGreatOChange
import Derived.Test.YtpbpdnjlomhkdaaGreatOPA
import Derived.Deep.LoopGhost
import Derived.Maps.AppendAt
import Derived.LaidEqlPtr
namespace Go.Proofs.YtpbpdnjlomhkdaaGreat
open Go.RowKit Go.Shelf

/-- Pointers to slots. -/
def pts (g : Nat) (L : List Nat) : List Value := L.map fun i => .pointer (some ⟨g, i * 9, none⟩)
theorem pts_len (g : Nat) (L : List Nat) : (pts g L).length = L.length := by simp [pts]
theorem pts_snoc (g : Nat) (L : List Nat) (i : Nat) : pts g (L ++ [i]) = pts g L ++ [.pointer (some ⟨g, i * 9, none⟩)] := by simp [pts]
theorem pts_one (g : Nat) (L : List Nat) : ∀ v ∈ pts g L, v.oneCell' = true := by
  intro v hv
  simp only [pts, List.mem_map] at hv
  obtain ⟨i, _, rfl⟩ := hv
  rfl
theorem infos_P : (Tryz.prog.info? 149).map (fun i => (i.zero, i.size, i.bytes)) = some (some (.pointer none), 1, 8) := by kernel_rfl
theorem PtrS.of {w : World} {base g b n c : Nat} {L : List Nat} (h : w.ownsRow base 149 1 (.slice (some ⟨b, 0, none⟩) n c) n (pts g L)) : PtrS w g b L := fun k hk => by
  have := h.cells (g := b) rfl k _ (show (pts g L)[k]? = some (.pointer (some ⟨g, L[k] * 9, none⟩)) from by simp [pts, hk])
  rw [add_plain, Nat.zero_add] at this
  exact this
/-- A row of slots' block. -/
def Rw (w : World) (g : Nat) : Prop := ∃ cs T, w.heap[g]? = some (.cells cs T (0, 0))
theorem SX.rw {w : World} {g k : Nat} {N : Nat → Vl.Th} {sl : Nat → Sl} (h : SX w g k N sl) : Rw w g := by
  obtain ⟨rest, hr⟩ := h.row
  exact ⟨_, _, hr⟩
theorem RX.rw {w0 w : World} {p g k : Nat} {t : Op.TT} {sl : Nat → Sl} {c : Cl} {B : Option Addr} {n d : Nat} {r : Rp} {D : Option Addr} {m e : Nat} {E : Option Addr} {q f : Nat} (h : RX w0 w p g k t sl c B n d r D m e E q f) : Rw w g := h.sx.rw
theorem ptrEq {w : World} {g : Nat} (h : Rw w g) (i j : Nat) : (binOp .eql 149 (.pointer (some ⟨g, i * 9, none⟩)) (.pointer (some ⟨g, j * 9, none⟩))).run Tryz.prog w = .ok (.bool (decide (i = j))) w := by
  obtain ⟨x, hx, hz0, hz1, hz2⟩ := info_parts infos_Sl
  obtain ⟨cs, T, hc⟩ := h
  by_cases he : i = j
  · subst he
    rw [decide_eq_true rfl]
    exact run_eql_ptr_same w _ Tryz.underlying149 hx
  · rw [decide_eq_false he]
    exact run_eql_ptr_other w Tryz.underlying149 hx (by omega) (by intro h; injection h with _ h _; omega) hc hc
theorem pidx_hit {L : List Nat} {j k : Nat} (hk : k < L.length) (h : L[k] = j) : decide (j ∈ L) = true := by
  rw [decide_eq_true_eq, ← h]
  exact List.getElem_mem hk
set_option maxRecDepth 100000 in
set_option maxHeartbeats 2000000 in
theorem index_any (w : World) (g b c : Nat) (L : List Nat) (j : Nat) (h : PtrS w g b L) (hr : Rw w g) (hl : L.length ≤ 100) :
    Calls Tryz.prog 169 #[.slice (some ⟨b, 0, none⟩) L.length c, .pointer (some ⟨g, j * 9, none⟩)] w fun e w' => (∃ z, e = .returned (.int .i64 z) ∧ decide (0 ≤ z) = decide (j ∈ L)) ∧ w = w' := by
  have HP := Lib.hid h
  have HR : Hid (∀ i j : Nat, (binOp .eql 149 (.pointer (some ⟨g, i * 9, none⟩)) (.pointer (some ⟨g, j * 9, none⟩))).run Tryz.prog w = .ok (.bool (decide (i = j))) w) := ptrEq hr
  clear h hr
  go_enter Tryz.func169, Tryz.ntmps169
  go_wp2
  go_loopg [5, 8] L.length (fun gg _ s8 wr => ∃ k : Nat, k ≤ L.length ∧ L.length - k ≤ gg ∧ s8 = .int .i64 k ∧ Hid (w = wr) ∧ Hid (∀ i, (h : i < L.length) → i < k → L[i] ≠ j))
  case atStart => exact ⟨0, by omega, by omega, rfl, rfl, fun i _ hi => absurd hi (Nat.not_lt_zero _)⟩
  case round =>
    obtain ⟨k, hk, hg, rfl, HW, HO⟩ := hrel
    obtain rfl : w = wr := HW.out
    by_cases hlt : k < L.length
    · have hc := HP.out k hlt
      by_cases hq : L[k] = j
      · have HY := Lib.hid (pidx_hit hlt hq)
        rw [hq] at hc
        have hE := HR.out j j
        rw [decide_eq_true rfl] at hE
        clear hq
        go_wp2_with fail
        go_ret
        exact ⟨⟨_, rfl, ⟨fun _ => of_decide_eq_true HY.out, fun _ => by omega⟩⟩, rfl⟩
      · have hne : ¬ j * 9 = L[k] * 9 := by omega
        have HO2 : Hid (∀ i', (h : i' < L.length) → i' < k + 1 → L[i'] ≠ j) := (show Hid _ from fun i' hi' hik => by
          by_cases hc' : i' = k
          · subst hc'; exact hq
          · exact HO.out i' hi' (by omega))
        clear hq HO
        have hE := HR.out L[k] j
        have hE' := HR.out j L[k]
        rw [decide_eq_false (by omega)] at hE hE'
        generalize L[k] = i at hc hne hE hE'
        go_wp2_with fail
        go_roundg (L.length - (k + 1))
        case measure => omega
        case rel =>
          exact ⟨k + 1, by omega, by omega, by go_num, rfl, HO2⟩
    · have : k = L.length := by omega
      subst this
      have HN : Hid (decide (j ∈ L) = false) := by
        show _ = _
        rw [decide_eq_false_iff_not]
        intro hm
        obtain ⟨i, hi, e⟩ := List.getElem_of_mem hm
        exact HO.out i hi hi e
      go_wp2
      go_ret
      exact ⟨⟨-1, rfl, ⟨fun h => absurd h (by decide), fun h => absurd h (of_decide_eq_false HN.out)⟩⟩, rfl⟩
set_option maxRecDepth 100000 in
set_option maxHeartbeats 2000000 in
theorem contains_any (w : World) (g b c : Nat) (L : List Nat) (j : Nat) (h : PtrS w g b L) (hr : Rw w g) (hl : L.length ≤ 100) :
    Calls Tryz.prog 149 #[.slice (some ⟨b, 0, none⟩) L.length c, .pointer (some ⟨g, j * 9, none⟩)] w fun e w' => e = .returned (.bool (decide (j ∈ L))) ∧ w = w' := by
  have HC := Lib.hid (index_any w g b c L j h hr hl)
  clear h hr
  go_enter Tryz.func149, Tryz.ntmps149
  go_wp2_with fail
  refine HC.out.mono ?_
  rintro e w1 ⟨⟨z, rfl, hz⟩, rfl⟩
  go_wp2
  go_ret
  exact ⟨by rw [← hz]; rfl, rfl⟩
end Go.Proofs.YtpbpdnjlomhkdaaGreat
