/-
  InodeBlocks walked (layer 7).
-/
import Derived.Test.YtkgpgaanodmpiaaIAwake
namespace Go.Proofs.Ytkgpgaanodmpiaa
open Go.RowKit

theorem nodup_next (xs : List Nat) (i : Nat) (h : i < xs.length) : (xs.take (i + 1)).Nodup ↔ (xs.take i).Nodup ∧ xs[i] ∉ xs.take i := by
  rw [List.take_succ_eq_append_getElem h, List.nodup_append]
  refine ⟨fun ⟨h1, _, h2⟩ => ⟨h1, fun hm => h2 _ hm _ (by simp) rfl⟩, fun ⟨h1, h2⟩ => ⟨h1, by simp, fun x hx y hy => ?_⟩⟩
  rw [List.mem_singleton] at hy
  subst hy
  rintro rfl
  exact h2 hx
theorem notin_next (xs : List Nat) (x k : Nat) (h : k < xs.length) : x ∉ xs.take (k + 1) ↔ x ∉ xs.take k ∧ xs[k] ≠ x := by
  rw [List.take_succ_eq_append_getElem h, List.mem_append, List.mem_singleton]
  refine ⟨fun hh => ⟨fun hm => hh (.inl hm), fun he => hh (.inr he.symm)⟩, fun ⟨h1, h2⟩ hh => ?_⟩
  rcases hh with hh | hh
  · exact h1 hh
  · exact h2 hh.symm
theorem chk_blocks (s : Nat) (xs : List Nat) : ((Nd.mk 1 0 1 0 s 0 0 0 xs).chk == 0) = (xs.length == need s && decide (xs.length ≤ 8) && decide xs.Nodup) := by
  have h1 : (Nd.mk 1 0 1 0 s 0 0 0 xs).okB = (xs.length == need s && decide (xs.length ≤ 8) && decide xs.Nodup) := by
    rw [okB_parts]
    unfold fitB useB
    by_cases hl : xs.length = need s
    · have h2 : decide (s ≤ 768) = decide (xs.length ≤ 8) := by
        rw [hl]
        unfold need
        rw [decide_eq_decide]
        omega
      rw [h2]
      simp [hl]
    · have h3 : (xs.length == need s) = false := by simpa using hl
      rw [h3]
      simp
  unfold Nd.chk
  rw [h1]
  cases (xs.length == need s && decide (xs.length ≤ 8) && decide xs.Nodup) <;> rfl
theorem built_C (s : Nat) (A : Option Addr) (n c : Nat) : Try.prog.built 26 [(0, .int .u32 1), (2, .int .u32 1), (4, .int .u32 (s : Int)), (8, .slice A n c)] = some #[.int .u32 (1 : Int), .int .u32 0, .int .u32 (1 : Int), .int .u32 0, .int .u32 (s : Int), .int .u64 0, .int .u64 0, .int .u64 0, .slice A n c] := by kernel_rfl

/-- While InodeBlocks goes: its inode lies in block b. -/
structure GB (w : World) (b : Nat) (cs : Array Value) (A : Option Addr) (n : Nat) (xs : List Nat) (W : World) : Prop where
  nod : W.heap[b]? = some (.cells cs 26 (0, 0))
  bel : Below w.heap.size w W
  ns : NS .u32 W A n xs
theorem GB.drew {w W : World} {b n : Nat} {cs : Array Value} {A : Option Addr} {xs : List Nat} (h : GB w b cs A n xs W) : GB w b cs A n xs W.drew := ⟨h.nod, h.bel.drew, h.ns⟩

set_option maxRecDepth 100000 in
set_option maxHeartbeats 4000000 in
theorem blocks_walk (x : Int) (A : Option Addr) (n cp : Nat) (xs : List Nat) (w : World) (h0 : 0 ≤ x) (h1 : x < 65536) (hx : NS .u32 w A n xs) (hb : ∀ y ∈ xs, y < 4294967296) :
    Calls Try.prog 7 #[.int .u16 x, .slice A n cp] w fun e w' => e = .returned (.bool true) ∧ Below w.heap.size w w' := by
  obtain ⟨s, rfl⟩ := Int.eq_ofNat_of_zero_le h0
  have HX := Lib.hid hx
  have Hn := Lib.hid hx.1
  have HY := Lib.hid hb
  clear hx hb
  by_cases h20 : 20 < n
  · have hd : decide ((20 : Int) < (n : Int)) = true := by simp; omega
    go_enter Try.func7, Try.ntmps7
    go_wp2_with fail
    refine (awake_any w).mono ?_
    rintro e w1 ⟨rfl, hb1⟩
    have HW1 := Lib.hid hb1
    clear hb1
    go_wp2
    go_ret
    exact ⟨rfl, HW1.out⟩
  have hd : decide ((20 : Int) < (n : Int)) = false := by simp; omega
  have ws : IntKind.u32.wrap (s : Int) = (s : Int) := by rw [IntKind.wrap_u32]; omega
  have ws2 : IntKind.i64.wrap (s : Int) = (s : Int) := IntWalk.i64_in _ (by omega)
  have hq2 : ((s : Int) + 95) / 96 = (need s : Int) := by unfold need; omega
  have hq : ((s : Int) + 95).tdiv 96 = (need s : Int) := by rw [Int.tdiv_eq_ediv_of_nonneg (by omega), hq2]
  go_enter Try.func7, Try.ntmps7
  go_wp2_with fail
  refine (awake_any w).mono ?_
  rintro e w1 ⟨rfl, hb1⟩
  have HW1 := Lib.hid hb1
  have HX1 := Lib.hid (HX.out.below hb1)
  clear hb1
  go_upto_region 7 with (first
    | (refine Did.list rfl (did_build 26 _ rfl _ (built_C _ _ _ _)) ?_)
    | (refine wpList_alloc_at rfl 26 rfl _ zero_I w1.heap.size rfl ?_
       intro w2 hb2 hw2)
    | (refine wpList_store_any rfl 26 (.tmp 6) (.tmp 19) rfl w1.heap.size #[.int .u32 (1 : Int), .int .u32 0, .int .u32 (1 : Int), .int .u32 0, .int .u32 (s : Int), .int .u64 0, .int .u64 0, .int .u64 0, .slice A n cp] rfl rfl 26 _ hb2 size_I rfl (by simp [Value.oneCell']) ?_
       intro w3 hb3 hs3 hw3))
  have hk3 : Below w1.heap.size w1 w3 := hw2.trans (Keep.below (hw3.mono fun k hk => by omega))
  have H3 : Hid (GB w w1.heap.size #[.int .u32 (1 : Int), .int .u32 0, .int .u32 (1 : Int), .int .u32 0, .int .u32 (s : Int), .int .u64 0, .int .u64 0, .int .u64 0, .slice A n cp] A n xs w3) := ⟨hb3, HW1.out.trans (hk3.mono HW1.out.size), HX1.out.below hk3⟩
  clear hk3 hb2 hw2 hb3 hs3 hw3 HW1 HX1
  generalize w1.heap.size = b at *
  obtain ⟨my, hmy⟩ : ∃ my, (xs.length == need s && decide (xs.length ≤ 8)) = my := ⟨_, rfl⟩
  have HMY := Lib.hid hmy
  clear hmy
  go_frame
  go_cut [7] (fun s7 W => s7 = .bool my ∧ w3 = W)
  case first =>
    have hnn := Hn.out
    by_cases e1 : n = need s
    · have d1 : ((n : Int) == (need s : Int)) = true := by simp; omega
      have d3 : (n == need s) = true := by simpa using e1
      by_cases e2 : n ≤ 8
      · have d2 : decide ((n : Int) ≤ 8) = true := by simp; omega
        have HF : Hid (my = true) := by show _ = _; rw [← HMY.out, hnn, d3, decide_eq_true e2]; rfl
        clear e1 e2
        go_wp2_with fail
        go_meet
        case rel => exact ⟨by rw [HF.out], rfl⟩
      · have d2 : decide ((n : Int) ≤ 8) = false := by simp; omega
        have HF : Hid (my = false) := by show _ = _; rw [← HMY.out, hnn, d3, decide_eq_false e2]; rfl
        clear e1 e2
        go_wp2_with fail
        go_meet
        case rel => exact ⟨by rw [HF.out], rfl⟩
    · have d1 : ((n : Int) == (need s : Int)) = false := by simp; omega
      have d3 : (n == need s) = false := by simpa using e1
      have HF : Hid (my = false) := by show _ = _; rw [← HMY.out, hnn, d3]; rfl
      clear e1
      go_wp2_with fail
      go_meet
      case rel => exact ⟨by rw [HF.out], rfl⟩
  obtain ⟨rfl, rfl⟩ := hcut
  clear hq hq2 hd
  go_wp2_with fail
  go_loopw [7, 8, 9] (fun v i _ wr => ∃ k : Nat, k ≤ n ∧ i = .int .i64 k ∧ v = .bool (my && decide (xs.take k).Nodup) ∧ Hid (GB w b #[.int .u32 (1 : Int), .int .u32 0, .int .u32 (1 : Int), .int .u32 0, .int .u32 (s : Int), .int .u64 0, .int .u64 0, .int .u64 0, .slice A n cp] A n xs wr)) (fun _ i _ _ => n - (intOf i).toNat)
  case atStart => exact ⟨0, by omega, rfl, by simp, H3⟩
  case round =>
    obtain ⟨i, hi, rfl, rfl, H⟩ := hrel
    by_cases hlt : i < n
    · go_wp2_with fail
      go_loopw [7, 9] (fun v j wr => ∃ k : Nat, k ≤ i ∧ j = .int .i64 k ∧ v = .bool (my && decide (xs.take i).Nodup && decide (xs.getD i 0 ∉ xs.take k)) ∧ Hid (GB w b #[.int .u32 (1 : Int), .int .u32 0, .int .u32 (1 : Int), .int .u32 0, .int .u32 (s : Int), .int .u64 0, .int .u64 0, .int .u64 0, .slice A n cp] A n xs wr)) (fun _ j _ => i - (intOf j).toNat)
      case atStart => exact ⟨0, by omega, rfl, by simp, H⟩
      case round =>
        obtain ⟨k, hk, rfl, rfl, H⟩ := hrel
        by_cases hkt : k < i
        · obtain ⟨bb, oo, rfl, hik, hck⟩ := H.out.ns.at (show k < n by omega)
          have hil : i < xs.length := by rw [Hn.out]; omega
          have hci : wr.cell? ⟨bb, oo + i, none⟩ = some (.int .u32 (xs[i] : Int)) := by
            obtain ⟨b2, o2, e2, _, hc2⟩ := H.out.ns.at hlt
            injection e2 with e2
            injection e2 with e3 e4 _
            subst e3 e4
            exact hc2
          have hgi : xs.getD i 0 = xs[i] := by rw [List.getD_eq_getElem?_getD, List.getElem?_eq_getElem hil]; rfl
          have HNX := Lib.hid (notin_next xs xs[i] k hik)
          rw [hgi]
          obtain ⟨d, hd⟩ : ∃ d, ((xs[k] : Int) != (xs[i] : Int)) = d := ⟨_, rfl⟩
          have HD : Hid ((xs[k] ≠ xs[i]) ↔ d = true) := by
            show _ ↔ _
            rw [← hd, bne_iff_ne]
            constructor
            · intro h1 h2; exact h1 (by omega)
            · intro h1 h2; exact h1 (by omega)
          obtain ⟨z, hz⟩ : ∃ z, (my && decide (xs.take i).Nodup && decide (xs[i] ∉ xs.take k)) = z := ⟨_, rfl⟩
          have HZ : Hid ((my && decide (xs.take i).Nodup && decide (xs[i] ∉ xs.take (k + 1))) = (z && d)) := by
            show _ = _
            rw [← hz]
            have h1 : decide (xs[i] ∉ xs.take (k + 1)) = (decide (xs[i] ∉ xs.take k) && d) := by
              rw [decide_eq_decide.2 HNX.out, Bool.decide_and]
              congr 1
              cases d with
              | true => exact decide_eq_true (HD.out.2 rfl)
              | false => exact decide_eq_false (fun h => by have := HD.out.1 h; cases this)
            rw [h1, ← Bool.and_assoc]
          rw [hz]
          clear hz hgi HNX HD
          generalize xs[k] = xk at *
          generalize xs[i] = xi at *
          go_upto_region 14 with (fail)
          have HS : Hid ((fun W : World => W.cell? ⟨bb, oo + k, none⟩ = some (.int .u32 (xk : Int)) ∧ W.cell? ⟨bb, oo + i, none⟩ = some (.int .u32 (xi : Int))) wr.drew) := ⟨hck, hci⟩
          cases z
          · refine wp_region_held_drew (S := fun W => W.cell? ⟨bb, oo + k, none⟩ = some (.int .u32 (xk : Int)) ∧ W.cell? ⟨bb, oo + i, none⟩ = some (.int .u32 (xi : Int))) (by kernel_rfl) HS.out (fun _ => ?_)
            change wpAnyH _ _ _ _ _ 13 (Array.replicate 13 false) _ _
            refine takeH (i := 0) 43 (.bool false) rfl rfl (by kernel_rfl) (by kernel_rfl) (by kernel_rfl) (fun _ _ _ h => h) (.inl ⟨by rfl, fun W hW => by go_simp⟩) HS.out ?_
            simp only [Act.put, List.setIfInBounds_toArray, List.set_cons_zero, List.set_cons_succ]
            refine takeH (i := 1) 44 (.bool false) rfl rfl (by kernel_rfl) (by kernel_rfl) (by kernel_rfl) (fun _ _ _ h => h) (.inl ⟨by rfl, fun W hW => by go_simp⟩) HS.out ?_
            simp only [Act.put, List.setIfInBounds_toArray, List.set_cons_zero, List.set_cons_succ]
            refine takeH (i := 2) 45 undef rfl rfl (by kernel_rfl) (by kernel_rfl) (by kernel_rfl) (fun _ _ _ h => h) (.inr ⟨by rfl, rfl⟩) HS.out ?_
            simp only [Act.put, List.setIfInBounds_toArray, List.set_cons_zero, List.set_cons_succ]
            refine takeH (i := 3) 46 undef rfl rfl (by kernel_rfl) (by kernel_rfl) (by kernel_rfl) (fun _ _ _ h => h) (.inr ⟨by rfl, rfl⟩) HS.out ?_
            simp only [Act.put, List.setIfInBounds_toArray, List.set_cons_zero, List.set_cons_succ]
            refine takeH (i := 4) 47 undef rfl rfl (by kernel_rfl) (by kernel_rfl) (by kernel_rfl) (fun _ _ _ h => h) (.inr ⟨by rfl, rfl⟩) HS.out ?_
            simp only [Act.put, List.setIfInBounds_toArray, List.set_cons_zero, List.set_cons_succ]
            refine takeH (i := 5) 48 undef rfl rfl (by kernel_rfl) (by kernel_rfl) (by kernel_rfl) (fun _ _ _ h => h) (.inr ⟨by rfl, rfl⟩) HS.out ?_
            simp only [Act.put, List.setIfInBounds_toArray, List.set_cons_zero, List.set_cons_succ]
            refine takeH (i := 6) 49 undef rfl rfl (by kernel_rfl) (by kernel_rfl) (by kernel_rfl) (fun _ _ _ h => h) (.inr ⟨by rfl, rfl⟩) HS.out ?_
            simp only [Act.put, List.setIfInBounds_toArray, List.set_cons_zero, List.set_cons_succ]
            refine takeH (i := 7) 50 undef rfl rfl (by kernel_rfl) (by kernel_rfl) (by kernel_rfl) (fun _ _ _ h => h) (.inr ⟨by rfl, rfl⟩) HS.out ?_
            simp only [Act.put, List.setIfInBounds_toArray, List.set_cons_zero, List.set_cons_succ]
            refine takeH (i := 8) 51 undef rfl rfl (by kernel_rfl) (by kernel_rfl) (by kernel_rfl) (fun _ _ _ h => h) (.inr ⟨by rfl, rfl⟩) HS.out ?_
            simp only [Act.put, List.setIfInBounds_toArray, List.set_cons_zero, List.set_cons_succ]
            refine takeH (i := 9) 52 undef rfl rfl (by kernel_rfl) (by kernel_rfl) (by kernel_rfl) (fun _ _ _ h => h) (.inr ⟨by rfl, rfl⟩) HS.out ?_
            simp only [Act.put, List.setIfInBounds_toArray, List.set_cons_zero, List.set_cons_succ]
            refine takeH (i := 10) 53 undef rfl rfl (by kernel_rfl) (by kernel_rfl) (by kernel_rfl) (fun _ _ _ h => h) (.inr ⟨by rfl, rfl⟩) HS.out ?_
            simp only [Act.put, List.setIfInBounds_toArray, List.set_cons_zero, List.set_cons_succ]
            refine takeH (i := 11) 54 (.bool false) rfl rfl (by kernel_rfl) (by kernel_rfl) (by kernel_rfl) (fun _ _ _ h => h) (.inl ⟨by rfl, fun W hW => by go_simp⟩) HS.out ?_
            simp only [Act.put, List.setIfInBounds_toArray, List.set_cons_zero, List.set_cons_succ]
            refine takeH (i := 12) 7 (.bool false) rfl rfl (by kernel_rfl) (by kernel_rfl) (by kernel_rfl) (fun _ _ _ h => h) (.inl ⟨by rfl, fun W hW => by go_simp⟩) HS.out ?_
            simp only [Act.put, List.setIfInBounds_toArray, List.set_cons_zero, List.set_cons_succ]
            refine wpAnyH_done (by kernel_rfl) ?_ _
            go_wp2
            go_roundw
            case rel => exact ⟨k + 1, by omega, by go_num, by rw [HZ.out]; rfl, Lib.hid H.out.drew⟩
            case measure => simp [intOf]; omega
          · refine wp_region_held_drew (S := fun W => W.cell? ⟨bb, oo + k, none⟩ = some (.int .u32 (xk : Int)) ∧ W.cell? ⟨bb, oo + i, none⟩ = some (.int .u32 (xi : Int))) (by kernel_rfl) HS.out (fun _ => ?_)
            change wpAnyH _ _ _ _ _ 13 (Array.replicate 13 false) _ _
            refine takeH (i := 0) 43 (.bool true) rfl rfl (by kernel_rfl) (by kernel_rfl) (by kernel_rfl) (fun _ _ _ h => h) (.inl ⟨by rfl, fun W hW => by go_simp⟩) HS.out ?_
            simp only [Act.put, List.setIfInBounds_toArray, List.set_cons_zero, List.set_cons_succ]
            refine takeH (i := 1) 44 (.bool true) rfl rfl (by kernel_rfl) (by kernel_rfl) (by kernel_rfl) (fun _ _ _ h => h) (.inl ⟨by rfl, fun W hW => by go_simp⟩) HS.out ?_
            simp only [Act.put, List.setIfInBounds_toArray, List.set_cons_zero, List.set_cons_succ]
            refine takeH (i := 2) 45 (.slice (some ⟨bb, oo, none⟩) n cp) rfl rfl (by kernel_rfl) (by kernel_rfl) (by kernel_rfl) (fun _ _ _ h => h) (.inl ⟨by rfl, fun W hW => by go_simp⟩) HS.out ?_
            simp only [Act.put, List.setIfInBounds_toArray, List.set_cons_zero, List.set_cons_succ]
            refine takeH (i := 3) 46 (.int .i64 (k : Int)) rfl rfl (by kernel_rfl) (by kernel_rfl) (by kernel_rfl) (fun _ _ _ h => h) (.inl ⟨by rfl, fun W hW => by go_simp⟩) HS.out ?_
            simp only [Act.put, List.setIfInBounds_toArray, List.set_cons_zero, List.set_cons_succ]
            refine takeH (i := 4) 47 (.pointer (some ⟨bb, oo + k, none⟩)) rfl rfl (by kernel_rfl) (by kernel_rfl) (by kernel_rfl) (fun _ _ _ h => h) (.inl ⟨by rfl, fun W hW => by (go_simp; try (intro h; omega))⟩) HS.out ?_
            simp only [Act.put, List.setIfInBounds_toArray, List.set_cons_zero, List.set_cons_succ]
            refine takeH (i := 5) 48 (.int .u32 (xk : Int)) rfl rfl (by kernel_rfl) (by kernel_rfl) (by kernel_rfl) (fun _ _ _ h => h) (.inl ⟨by rfl, fun W hW => by (obtain ⟨h1, h2⟩ := hW; go_simp)⟩) HS.out ?_
            simp only [Act.put, List.setIfInBounds_toArray, List.set_cons_zero, List.set_cons_succ]
            refine takeH (i := 6) 49 (.slice (some ⟨bb, oo, none⟩) n cp) rfl rfl (by kernel_rfl) (by kernel_rfl) (by kernel_rfl) (fun _ _ _ h => h) (.inl ⟨by rfl, fun W hW => by go_simp⟩) HS.out ?_
            simp only [Act.put, List.setIfInBounds_toArray, List.set_cons_zero, List.set_cons_succ]
            refine takeH (i := 7) 50 (.int .i64 (i : Int)) rfl rfl (by kernel_rfl) (by kernel_rfl) (by kernel_rfl) (fun _ _ _ h => h) (.inl ⟨by rfl, fun W hW => by go_simp⟩) HS.out ?_
            simp only [Act.put, List.setIfInBounds_toArray, List.set_cons_zero, List.set_cons_succ]
            refine takeH (i := 8) 51 (.pointer (some ⟨bb, oo + i, none⟩)) rfl rfl (by kernel_rfl) (by kernel_rfl) (by kernel_rfl) (fun _ _ _ h => h) (.inl ⟨by rfl, fun W hW => by (go_simp; try (intro h; omega))⟩) HS.out ?_
            simp only [Act.put, List.setIfInBounds_toArray, List.set_cons_zero, List.set_cons_succ]
            refine takeH (i := 9) 52 (.int .u32 (xi : Int)) rfl rfl (by kernel_rfl) (by kernel_rfl) (by kernel_rfl) (fun _ _ _ h => h) (.inl ⟨by rfl, fun W hW => by (obtain ⟨h1, h2⟩ := hW; go_simp)⟩) HS.out ?_
            simp only [Act.put, List.setIfInBounds_toArray, List.set_cons_zero, List.set_cons_succ]
            refine takeH (i := 10) 53 (.bool d) rfl rfl (by kernel_rfl) (by kernel_rfl) (by kernel_rfl) (fun _ _ _ h => h) (.inl ⟨by rfl, fun W hW => by go_simp⟩) HS.out ?_
            simp only [Act.put, List.setIfInBounds_toArray, List.set_cons_zero, List.set_cons_succ]
            refine takeH (i := 11) 54 (.bool d) rfl rfl (by kernel_rfl) (by kernel_rfl) (by kernel_rfl) (fun _ _ _ h => h) (.inl ⟨by rfl, fun W hW => by go_simp⟩) HS.out ?_
            simp only [Act.put, List.setIfInBounds_toArray, List.set_cons_zero, List.set_cons_succ]
            refine takeH (i := 12) 7 (.bool d) rfl rfl (by kernel_rfl) (by kernel_rfl) (by kernel_rfl) (fun _ _ _ h => h) (.inl ⟨by rfl, fun W hW => by go_simp⟩) HS.out ?_
            simp only [Act.put, List.setIfInBounds_toArray, List.set_cons_zero, List.set_cons_succ]
            refine wpAnyH_done (by kernel_rfl) ?_ _
            go_wp2
            go_roundw
            case rel => exact ⟨k + 1, by omega, by go_num, by rw [HZ.out]; rfl, Lib.hid H.out.drew⟩
            case measure => simp [intOf]; omega
        · have hki : k = i := by omega
          subst hki
          have hkl : k < xs.length := by rw [Hn.out]; exact hlt
          have hgi : xs.getD k 0 = xs[k] := by rw [List.getD_eq_getElem?_getD, List.getElem?_eq_getElem hkl]; rfl
          have HZ : Hid ((my && decide (xs.take (k + 1)).Nodup) = (my && decide (xs.take k).Nodup && decide (xs.getD k 0 ∉ xs.take k))) := by
            show _ = _
            rw [hgi, decide_eq_decide.2 (nodup_next xs k hkl), Bool.decide_and, Bool.and_assoc]
          generalize (my && decide (xs.take k).Nodup && decide (xs.getD k 0 ∉ xs.take k)) = z at *
          go_wp2
          go_roundw
          case rel => exact ⟨k + 1, by omega, by go_num, by rw [HZ.out], H⟩
          case measure => simp [intOf]; omega
    · have hin : i = n := by omega
      subst hin
      have HC : Hid (((Nd.mk 1 0 1 0 s 0 0 0 xs).chk == 0) = (my && decide (xs.take i).Nodup)) := by
        show _ = _
        rw [chk_blocks, HMY.out, List.take_of_length_le (by rw [Hn.out]; exact Nat.le_refl _)]
      have HWD : Hid ((Nd.mk 1 0 1 0 s 0 0 0 xs).Wide) := ⟨by simp only; omega, by simp only; omega, by simp only; omega, by simp only; omega, by simp only; omega, by simp only; omega, by simp only; omega, by simp only; omega, HY.out⟩
      generalize (my && decide (xs.take i).Nodup) = z at *
      go_wp2_with (first
        | (refine wpList_load_row rfl 26 (.tmp 6) rfl _ rfl 26 #[.int .u32 (1 : Int), .int .u32 0, .int .u32 (1 : Int), .int .u32 0, .int .u32 (s : Int), .int .u64 0, .int .u64 0, .int .u64 0, .slice A i cp] (0, 0) _ H.out.nod Try.underlying26 rfl size_I ?_))
      refine (check_any 1 0 1 0 s 0 0 0 A i cp xs wr HWD.out H.out.ns (by omega)).mono ?_
      rintro e w4 ⟨rfl, hb4⟩
      have HW4 : Hid (Below w.heap.size w w4) := H.out.bel.trans (hb4.mono H.out.bel.size)
      clear hb4
      generalize (Nd.mk 1 0 1 0 s 0 0 0 xs).chk = ch at *
      have hc := HC.out
      cases z
      · go_wp2
        go_ret
        exact ⟨rfl, HW4.out⟩
      · go_wp2
        go_ret
        exact ⟨rfl, HW4.out⟩
end Go.Proofs.Ytkgpgaanodmpiaa
