/-
  Contract of the document's Put (layer 4), where it goes.
-/
import Derived.Test.YtbikfmcppfkjgaaSRef
namespace Go.Proofs.Ytbikfmcppfkjgaa
open Go.RowKit

/-- The length of a text in a slot. -/
def strLen : Value → Nat
  | .string s => s.size
  | _ => 0

set_option maxRecDepth 100000 in
set_option maxHeartbeats 4000000 in
theorem refPut_ok (f : Fm) (w : World) (hf : f.ok) :
    Calls Try.prog 10 #[.agg #[.int .i64 (f.k.toNat : Int), .int .i64 (f.i.toNat : Int), .int .i64 (f.c.toNat : Int), .int .u64 (f.s : Int), .int .u32 (f.a : Int), .string (txt f.b)]] w fun e w' => e = .returned (.tuple #[.string (txt (sealed f.enc)), .int .i64 0]) ∧ Below w.heap.size w w' := by
  have hb := hf.b
  obtain ⟨nb, hnb⟩ : ∃ nb : UInt8, f.b.length = nb.toNat := ⟨UInt8.ofNat f.b.length, by simp; omega⟩
  have hsz : (txt f.b).size = nb.toNat := by rw [txt_size, hnb]
  have hn8 : nb.toNat ≤ 108 := by omega
  have HNB := Lib.hid hnb
  have hk1 := hf.k1
  have hk4 := hf.k4
  have hs := hf.s
  have ha := hf.a
  have hi := f.i.toNat_lt
  have hc := f.c.toNat_lt
  have hd6 : decide ((108 : Int) < (nb.toNat : Int)) = false := by simp; omega
  clear hf hnb hb
  go_enter Try.func10, Try.ntmps10
  have d1 : decide ((f.k.toNat : Int) < 1) = false := by simp; omega
  have d2 : decide ((4 : Int) < (f.k.toNat : Int)) = false := by simp; omega
  have d3 : decide ((f.i.toNat : Int) < 0) = false := by simp
  have d4 : decide ((255 : Int) < (f.i.toNat : Int)) = false := by simp; omega
  have d5 : decide ((f.c.toNat : Int) < 0) = false := by simp
  have d7 : decide ((255 : Int) < (f.c.toNat : Int)) = false := by simp; omega
  go_upto_region 3 with (fail)
  have R1 : Hid (RI f w (w.alloc (.cells #[.int .i64 (f.k.toNat : Int), .int .i64 (f.i.toNat : Int), .int .i64 (f.c.toNat : Int), .int .u64 (f.s : Int), .int .u32 (f.a : Int), .string (txt f.b)] 34)).drew) := ⟨((Below.refl _ w).alloc (Nat.le_refl _) _).drew, S6.new f w⟩
  generalize (w.alloc (.cells #[.int .i64 (f.k.toNat : Int), .int .i64 (f.i.toNat : Int), .int .i64 (f.c.toNat : Int), .int .u64 (f.s : Int), .int .u32 (f.a : Int), .string (txt f.b)] 34)) = w1 at *
  obtain ⟨c0, c1, c2, c3, c4, c5⟩ := R1.out.2
  have hlt1 : w.heap.size < w1.heap.size := R1.out.lt
  have z1 : IntKind.u8.wrap (f.k.toNat : Int) = (f.k.toNat : Int) := by rw [IntKind.wrap_u8]; omega
  have z2 : IntKind.u8.wrap (f.i.toNat : Int) = (f.i.toNat : Int) := by rw [IntKind.wrap_u8]; omega
  have z3 : IntKind.u8.wrap (f.c.toNat : Int) = (f.c.toNat : Int) := by rw [IntKind.wrap_u8]; omega
  have z4 : IntKind.u8.wrap (nb.toNat : Int) = (nb.toNat : Int) := by rw [IntKind.wrap_u8]; omega
  have V1 := fun (W : World) => run_convert_bs _ _ 4 4 _ (bs4 W f.k f.i f.c nb)
  have V2 := fun (W : World) => run_convert_bs _ _ 4 4 _ (bs4d W f.k f.i f.c nb)
  have n1 : ¬ 9223372036854775807 < (txt [f.k, f.i, f.c, nb]).size + (txt (be 8 f.s)).size := by rw [txt_size, txt_size, be_length]; simp
  have n2 : ¬ 9223372036854775807 < (txt [f.k, f.i, f.c, nb] ++ txt (be 8 f.s)).size + (txt (be 4 f.a)).size := by rw [txt_append, txt_size, txt_size, List.length_append, be_length, be_length]; simp
  have n3 : ¬ 9223372036854775807 < (txt [f.k, f.i, f.c, nb] ++ txt (be 8 f.s) ++ txt (be 4 f.a)).size + nb.toNat := by rw [txt_append, txt_append, txt_size, List.length_append, List.length_append, be_length, be_length]; simp; omega
  go_cut [4] (fun s4 W => s4 = .string (txt ([f.k, f.i, f.c, nb] ++ (be 8 f.s ++ (be 4 f.a ++ f.b)))) ∧ Hid (Below w.heap.size w W))
  case first =>
    go_region_held (fun W => W.cell? ⟨w.heap.size, 0, none⟩ = some (.int .i64 (f.k.toNat : Int)) ∧ W.cell? ⟨w.heap.size, 1, none⟩ = some (.int .i64 (f.i.toNat : Int)) ∧ W.cell? ⟨w.heap.size, 2, none⟩ = some (.int .i64 (f.c.toNat : Int)) ∧ W.cell? ⟨w.heap.size, 3, none⟩ = some (.int .u64 (f.s : Int)) ∧ W.cell? ⟨w.heap.size, 4, none⟩ = some (.int .u32 (f.a : Int)) ∧ W.cell? ⟨w.heap.size, 5, none⟩ = some (.string (txt f.b)))
      (first | exact ⟨c0, c1, c2, c3, c4, c5⟩ | exact X6 | exact X7 | exact (RI.allocd (f := f) (w := w) (Hid.out (by assumption)) _).2 | exact (RI.alloc (f := f) (w := w) (Hid.out (by assumption)) _).2 | go_keep)
      (first
        | (go_at_call 19
           refine (refU64 f.s _ hs).mono ?_
           rintro e w6 ⟨rfl, hb6⟩
           have R6 : Hid (RI f w w6) := RI.below (by first | exact Hid.out (by assumption) | exact RI.allocd (Hid.out (by assumption)) _ | exact RI.alloc (Hid.out (by assumption)) _) hb6
           have X6 := R6.out.2
           have hlt6 : w.heap.size < w6.heap.size := R6.out.lt
           first
             | (have B6 := Lib.hid (BS.below (bs4d _ f.k f.i f.c nb) hb6)
                have v6 := run_convert_bs _ _ 4 4 _ B6.out)
             | (have B6 := Lib.hid (BS.below (bs4 _ f.k f.i f.c nb) hb6)
                have v6 := run_convert_bs _ _ 4 4 _ B6.out)
             | skip
           clear hb6)
        | (go_at_call 20
           refine (refU32n f.a _ ha).mono ?_
           rintro e w7 ⟨rfl, hb7⟩
           have R7 : Hid (RI f w w7) := RI.below (by first | exact Hid.out (by assumption) | exact RI.allocd (Hid.out (by assumption)) _ | exact RI.alloc (Hid.out (by assumption)) _) hb7
           have X7 := R7.out.2
           have hlt7 : w.heap.size < w7.heap.size := R7.out.lt
           first
             | (have B7 := Lib.hid (BS.below (bs4d _ f.k f.i f.c nb) hb7)
                have v7 := run_convert_bs _ _ 4 4 _ B7.out)
             | (have B7 := Lib.hid (BS.below (bs4 _ f.k f.i f.c nb) hb7)
                have v7 := run_convert_bs _ _ 4 4 _ B7.out)
             | (have B7 : Hid (BS w7 _ 4 [f.k, f.i, f.c, nb]) := BS.below (Hid.out (by assumption)) hb7
                have v7 := run_convert_bs _ _ 4 4 _ B7.out)
             | skip
           clear hb7))
    all_goals
      go_wp2_with fail
      go_meet
      exact ⟨by rw [txt_append, txt_append, txt_append, List.append_assoc, List.append_assoc], by first | exact R7.out.1 | exact (R7.out.alloc _).1⟩
  case rest =>
    obtain ⟨rfl, HW⟩ := hcut
    clear V1 V2 n1 n2 n3 z1 z2 z3 z4 c0 c1 c2 c3 c4 c5 R1 hlt1 hsz
    have HP : Hid (([f.k, f.i, f.c, nb] ++ (be 8 f.s ++ (be 4 f.a ++ f.b))).length = 16 + nb.toNat) := by
      show _ = _
      rw [List.length_append, List.length_append, List.length_append, be_length, be_length, HNB.out]
      simp
      omega
    have HE : Hid (([f.k, f.i, f.c, nb] ++ (be 8 f.s ++ (be 4 f.a ++ f.b))) ++ List.replicate (108 - nb.toNat) 0 = f.enc) := by
      show _ = _
      unfold Fm.enc
      rw [HNB.out, UInt8.ofNat_toNat]
      simp
    generalize [f.k, f.i, f.c, nb] ++ (be 8 f.s ++ (be 4 f.a ++ f.b)) = pre at *
    go_wp2_with fail
    go_loop [4] (fun s4 => ∃ j : Nat, j ≤ 108 - nb.toNat ∧ s4 = .string (txt (pre ++ List.replicate j 0))) (fun s4 => 124 - strLen s4)
    case atStart => exact ⟨0, by omega, by simp⟩
    case round =>
      obtain ⟨j, hj, rfl⟩ := hrel
      have hsj : (txt (pre ++ List.replicate j 0)).size = 16 + nb.toNat + j := by rw [txt_size, List.length_append, HP.out, List.length_replicate]
      by_cases hlt : j < 108 - nb.toNat
      · have hd : decide ((16 : Int) + (nb.toNat : Int) + (j : Int) < 124) = true := by simp; omega
        have HX : Hid (txt (pre ++ List.replicate j 0) ++ ⟨#[0]⟩ = txt (pre ++ List.replicate (j + 1) 0)) := by
          show _ ++ txt [0] = _
          rw [txt_append, List.append_assoc, ← List.replicate_succ']
        go_wp2_with fail
        rw [HX.out]
        go_round
        case rel => exact ⟨j + 1, by omega, rfl⟩
        case measure =>
          have h2 : (txt (pre ++ List.replicate (j + 1) 0)).size = 16 + nb.toNat + (j + 1) := by rw [txt_size, List.length_append, HP.out, List.length_replicate]
          simp [strLen, h2, hsj]
          omega
      · have hd : decide ((16 : Int) + (nb.toNat : Int) + (j : Int) < 124) = false := by simp; omega
        have Hj : Hid (j = 108 - nb.toNat) := by show _ = _; omega
        have HL : Hid (f.enc.length ≤ 1000000) := by show _ ≤ _; rw [← HE.out, List.length_append, HP.out, List.length_replicate]; omega
        go_wp2_with fail
        rw [Hj.out, HE.out]
        refine (refSealed f.enc _ HL.out).mono ?_
        rintro e w9 ⟨rfl, hb9⟩
        have HW9 := Lib.hid (HW.out.trans (hb9.mono HW.out.size))
        clear hb9
        go_wp2_with fail
        go_ret2
        exact ⟨rfl, HW9.out⟩
end Go.Proofs.Ytbikfmcppfkjgaa
