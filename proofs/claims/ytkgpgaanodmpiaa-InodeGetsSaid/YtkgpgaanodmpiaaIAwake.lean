/-
  Contract of the document's example (layer 7): it holds, and leaves all memory that was there alone.
-/
import Derived.Test.YtkgpgaanodmpiaaIGet
namespace Go.Proofs.Ytkgpgaanodmpiaa
open Go.RowKit

theorem get_any (A : Option Addr) (n cp : Nat) (l : List UInt8) (w : World) (h : BS w A n l) (hn : n ≤ 1000000) : Calls Try.prog 17 #[.slice A n cp] w (GetP l w) := by
  rcases Nat.eq_zero_or_pos n with h0 | h0
  · subst h0
    have : l = [] := List.eq_nil_of_length_eq_zero h.1
    subst this
    exact get_nil A cp w
  · exact get_some A n cp l w h hn h0
theorem wpList_alloc_at {P : Program} {o : Oper} {a : Act} {w : World} {ops : Array Oper} {rest : List Oper} {Q : Exit → Act → World → Prop} (hg : o.guard = none) (ty : TypeId) (ho : o.op = .alloc ty) (z : Value) (hz : (P.info? ty).bind (·.zero) = some z) (g : Nat) (hs : w.heap.size = g)
    (h : ∀ w', w'.heap[g]? = some (.cells z.cells ty (0, 0)) → Below g w w' → wpList P ops Q rest (a.put o.dst (.pointer (some ⟨g, 0, none⟩))) w') : wpList P ops Q (o :: rest) a w := by
  subst hs
  exact wpList_alloc_any hg ty ho z hz fun w' h1 _ h2 => h w' h1 h2
theorem built_A (A : Option Addr) (n c : Nat) : Try.prog.built 26 [(0, .int .u32 1), (1, .int .u32 2), (2, .int .u32 1), (4, .int .u32 97), (8, .slice A n c)] = some #[.int .u32 (1 : Int), .int .u32 (2 : Int), .int .u32 (1 : Int), .int .u32 0, .int .u32 (97 : Int), .int .u64 0, .int .u64 0, .int .u64 0, .slice A n c] := by kernel_rfl
theorem built_B : Try.prog.built 26 [(0, .int .u32 1)] = some #[.int .u32 (1 : Int), .int .u32 0, .int .u32 0, .int .u32 0, .int .u32 0, .int .u64 0, .int .u64 0, .int .u64 0, .slice none 0 0] := by kernel_rfl
def xA : Nd := ⟨1, 2, 1, 0, 97, 0, 0, 0, [4, 9]⟩
theorem xA_wide : xA.Wide := ⟨by decide, by decide, by decide, by decide, by decide, by decide, by decide, by decide, by decide⟩
theorem xA_ok : xA.okB = true := by decide +kernel
theorem xA_put : xA.put.length = 56 ∧ xA.put[3]? = some 1 := by decide +kernel
theorem xB_chk : (Nd.mk 1 0 0 0 0 0 0 0 []).chk = 1 := by decide +kernel
theorem xB_wide : (Nd.mk 1 0 0 0 0 0 0 0 []).Wide := ⟨by decide, by decide, by decide, by decide, by decide, by decide, by decide, by decide, by decide⟩

set_option maxRecDepth 100000 in
set_option maxHeartbeats 4000000 in
theorem awake_any (w : World) : Calls Try.prog 9 #[] w fun e w' => e = .returned (.bool true) ∧ Below w.heap.size w w' := by
  go_enter Try.func9, Try.ntmps9
  have hA : (w.alloc (.cells #[.int .u32 4, .int .u32 9] 22)).heap.size = w.heap.size + 1 := by simp
  go_upto_region 2 with (first
    | (refine Did.list rfl (did_build 26 _ rfl _ (built_A _ _ _)) ?_)
    | (refine wpList_alloc_at rfl 26 rfl _ zero_I (w.heap.size + 1) hA ?_
       intro w2 hb2 hw2)
    | (refine wpList_store_any rfl 26 (.tmp 1) (.tmp 9) rfl (w.heap.size + 1) #[.int .u32 (1 : Int), .int .u32 (2 : Int), .int .u32 (1 : Int), .int .u32 0, .int .u32 (97 : Int), .int .u64 0, .int .u64 0, .int .u64 0, .slice (some ⟨w.heap.size, 0, none⟩) 2 2] rfl rfl 26 _ hb2 size_I rfl (by simp [Value.oneCell']) ?_
       intro w3 hb3 hs3 hw3))
  have HB3 := Lib.hid hb3
  have hk3 : Below (w.heap.size + 1) (w.alloc (.cells #[.int .u32 4, .int .u32 9] 22)) w3 := by
    exact hw2.trans (Keep.below (hw3.mono fun k hk => by omega))
  have HW3 : Hid (Below w.heap.size w w3) := ((Below.refl _ _).alloc (Nat.le_refl _) _).trans (hk3.mono (Nat.le_succ _))
  have HN3 : Hid (NS .u32 w3 (some ⟨w.heap.size, 0, none⟩) 2 [4, 9]) := ns_block [4, 9] ((hk3.block _ (by omega)).trans (heap_alloc_new w _))
  clear hb2 hw2 hb3 hs3 hw3 hk3
  clear hA
  go_wp2_with (first
    | (refine wpList_load_row rfl 26 (.tmp 1) rfl _ rfl 26 #[.int .u32 (1 : Int), .int .u32 (2 : Int), .int .u32 (1 : Int), .int .u32 0, .int .u32 (97 : Int), .int .u64 0, .int .u64 0, .int .u64 0, .slice (some ⟨w.heap.size, 0, none⟩) 2 2] (0, 0) _ HB3.out Try.underlying26 rfl size_I ?_))
  refine (put_any 1 2 1 0 97 0 0 0 _ 2 2 [4, 9] w3 xA_wide HN3.out (by omega)).mono ?_
  rintro e w4 ⟨A4, n4, c4, rfl, hbs4, hb4⟩
  rw [show (Nd.mk 1 2 1 0 97 0 0 0 [4, 9]).chk = 0 from if_pos xA_ok]
  have HB4 : Hid (BS w4 A4 n4 xA.put) := hbs4
  have HW4 : Hid (Below w.heap.size w w4) := HW3.out.trans (hb4.mono HW3.out.size)
  clear hbs4 hb4 HW3 HN3 HB3
  have Hn4 : Hid (n4 = 56) := by show _ = _; rw [← HB4.out.1]; exact xA_put.1
  have hn4 := Hn4.out
  subst hn4
  go_wp2_with fail
  refine (get_any A4 56 c4 _ w4 HB4.out (by omega)).mono ?_
  rintro e w5 hgp
  unfold GetP at hgp
  rw [(Nd.got_put xA xA_wide xA_ok).1, (Nd.got_put xA xA_wide xA_ok).2] at hgp
  obtain ⟨B5, c5, rfl, hns5, hb5⟩ := hgp
  have HN5 : Hid (NS .u32 w5 B5 2 [4, 9]) := hns5
  have HB5 := Lib.hid (HB4.out.below hb5)
  have HW5 : Hid (Below w.heap.size w w5) := HW4.out.trans (hb5.mono HW4.out.size)
  clear hns5 hb5 HB4 HW4
  go_upto_region 4 with (first
    | (refine wpList_alloc_at rfl 26 rfl _ zero_I w5.heap.size rfl ?_
       intro w6 hb6 hw6)
    | (refine wpList_store_any rfl 26 (.tmp 4) (.tmp 18) rfl w5.heap.size #[.int .u32 (1 : Int), .int .u32 (2 : Int), .int .u32 (1 : Int), .int .u32 0, .int .u32 (97 : Int), .int .u64 0, .int .u64 0, .int .u64 0, .slice B5 2 c5] rfl rfl 26 _ hb6 size_I rfl (by simp [Value.oneCell']) ?_
       intro w7 hb7 hs7 hw7))
  have hk7 : Below w5.heap.size w5 w7 := hw6.trans (Keep.below (hw7.mono fun k hk => by omega))
  have HC7 := Lib.hid hb7
  have HN7 := Lib.hid (HN5.out.below hk7)
  have HB7 := Lib.hid (HB5.out.below hk7)
  have HW7 : Hid (Below w.heap.size w w7) := HW5.out.trans (hk7.mono HW5.out.size)
  clear hk7 hb6 hw6 hb7 hs7 hw7 HN5 HB5
  generalize w5.heap.size = p4 at *
  go_wp2_with fail
  refine (get_nil none 0 w7).mono ?_
  rintro e w8 hgp
  unfold GetP at hgp
  rw [show Nd.err [] = 0 from rfl, show Nd.got [] = Nd.zero from rfl] at hgp
  obtain ⟨B8, c8, rfl, hns8, hb8⟩ := hgp
  have hp4 : p4 < w7.heap.size := by
    have := HC7.out
    rcases Nat.lt_or_ge p4 w7.heap.size with h | h
    · exact h
    · rw [Array.getElem?_eq_none h] at this; cases this
  have HC8 := Lib.hid ((hb8.block _ hp4).trans HC7.out)
  have HN8 := Lib.hid (HN7.out.below hb8)
  have HB8 := Lib.hid (HB7.out.below hb8)
  have HW8 : Hid (Below w.heap.size w w8) := HW7.out.trans (hb8.mono HW7.out.size)
  have hp8 : p4 < w8.heap.size := Nat.lt_of_lt_of_le hp4 hb8.size
  clear hns8 hb8 HC7 HN7 HB7 HW7 hp4
  go_upto_region 5 with (first
    | (refine wpList_alloc_at rfl 26 rfl _ zero_I w8.heap.size rfl ?_
       intro w9 hb9 hw9)
    | (refine wpList_store_any rfl 26 (.tmp 6) (.tmp 22) rfl w8.heap.size #[.int .u32 0, .int .u32 0, .int .u32 0, .int .u32 0, .int .u32 0, .int .u64 0, .int .u64 0, .int .u64 0, .slice B8 0 c8] rfl rfl 26 _ hb9 size_I rfl (by simp [Value.oneCell']) ?_
       intro wa hba hsa hwa))
  have hka : Below w8.heap.size w8 wa := hw9.trans (Keep.below (hwa.mono fun k hk => by omega))
  have HCa := Lib.hid ((hka.block _ hp8).trans HC8.out)
  have HNa := Lib.hid (HN8.out.below hka)
  have HBa := Lib.hid (HB8.out.below hka)
  have HWa : Hid (Below w.heap.size w wa) := HW8.out.trans (hka.mono HW8.out.size)
  have hz0 : wa.cell? ⟨w8.heap.size, 0, none⟩ = some (.int .u32 0) := cell_of_row wa _ 0 _ _ (0, 0) hba
  have h44 : wa.cell? ⟨p4, 4, none⟩ = some (.int .u32 97) := cell_of_row wa _ 4 _ _ (0, 0) HCa.out
  have h48 : wa.cell? ⟨p4, 8, none⟩ = some (.slice B5 2 c5) := cell_of_row wa _ 8 _ _ (0, 0) HCa.out
  clear hka hb9 hw9 hba hsa hwa HC8 HN8 HB8 HW8 hp8
  obtain ⟨bN, oN, rfl, hjN, hcN⟩ := HNa.out.at (show 1 < 2 by omega)
  obtain ⟨bB, oB, rfl, hjB, hcB⟩ := HBa.out.at (show 3 < 56 by omega)
  have hcN' : wa.cell? ⟨bN, oN + 1, none⟩ = some (.int .u32 9) := hcN
  have hcB' : wa.cell? ⟨bB, oB + 3, none⟩ = some (.int .u8 1) := by
    rw [hcB]
    have h1 := xA_put.2
    rw [List.getElem?_eq_getElem hjB] at h1
    injection h1 with h1
    rw [h1]
    rfl
  clear hcN hcB HNa HBa
  have n1 : (needI 97 : Int) = 2 := by decide
  have n2 : (needI 96 : Int) = 1 := by decide
  go_wp2_with fail
  refine (need_any 97 wa (by omega) (by omega)).mono ?_
  rintro e wb ⟨rfl, rfl⟩
  rw [n1]
  go_wp2_with fail
  refine (need_any 96 wa (by omega) (by omega)).mono ?_
  rintro e wb ⟨rfl, rfl⟩
  rw [n2]
  go_wp2_with (first
    | (refine Did.list rfl (did_build 26 _ rfl _ built_B) ?_))
  refine (check_any 1 0 0 0 0 0 0 0 none 0 0 [] wa xB_wide NS.nil (by omega)).mono ?_
  rintro e wb ⟨rfl, hbb⟩
  rw [xB_chk]
  have HWb : Hid (Below w.heap.size w wb) := HWa.out.trans (hbb.mono HWa.out.size)
  clear hbb
  go_wp2
  go_ret
  exact ⟨rfl, HWb.out⟩
end Go.Proofs.Ytkgpgaanodmpiaa
