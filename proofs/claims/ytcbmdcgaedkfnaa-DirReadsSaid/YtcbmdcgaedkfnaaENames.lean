/-
  DirNames walked (layer 8).
-/
import Derived.Test.YtcbmdcgaedkfnaaEAwake
import Derived.Deep.DeepCutAuto
namespace Go.Proofs.Ytcbmdcgaedkfnaa
open Go.RowKit Go.Shelf

/-- What a name must be ahead of its bytes. -/
def headOk (l : List UInt8) : Bool := decide (1 ≤ l.length) && decide (l.length ≤ 24) && !(l == [46]) && !(l == [46, 46])
theorem nameOk_head (l : List UInt8) : nameOk l = (headOk l && !parts l) := by
  rw [nameOk_eq]
  unfold headOk
  have e1 : (!decide (l.length < 1)) = decide (1 ≤ l.length) := by
    rw [← decide_not]
    exact decide_eq_decide.2 (by omega)
  have e2 : (!decide (24 < l.length)) = decide (l.length ≤ 24) := by
    rw [← decide_not]
    exact decide_eq_decide.2 (by omega)
  rw [e1, e2]
theorem parts_take (l : List UInt8) (k : Nat) (h : k < l.length) : parts (l.take (k + 1)) = (parts (l.take k) || (l[k] == 0 || l[k] == 47)) := by
  unfold parts
  rw [List.take_succ_eq_append_getElem h, List.any_append]
  simp
theorem parts_at (l : List UInt8) (k : Nat) (h : k < l.length) : ∃ x : UInt8, (∀ hk : k < (txt l).size, (txt l)[k]'hk = x) ∧ parts (l.take (k + 1)) = (parts (l.take k) || (x == 0 || x == 47)) :=
  ⟨l[k], fun _ => rfl, parts_take l k h⟩
theorem fnd_nil (nm : List UInt8) : fnd [] nm = -1 := rfl
theorem addE_nil (e : En) (h : 0 < e.ck) : addE [] e = if nameOk e.nm = true then 0 else 67 := by
  unfold addE
  cases nameOk e.nm
  · rfl
  · rw [if_neg (by simp), if_neg (by rw [fnd_nil]; omega), if_neg (by show ¬ e.ck ≤ 0; omega)]
    rfl
theorem u8_ne (b c : UInt8) (n : Int) (hc : (c.toNat : Int) = n) : (((b.toNat : Int)) != n) = !(b == c) := by
  rw [← hc]
  by_cases h : b = c
  · subst h; simp
  · have h2 : b.toNat ≠ c.toNat := fun e => h (UInt8.toNat_inj.1 e)
    have e1 : (b == c) = false := by simpa using h
    rw [e1]
    simp
    omega
theorem built_N (v : ByteArray) : Try.prog.built 41 [(0, .int .u64 1), (2, .string v)] = some #[.int .u64 1, .int .u32 0, .int .u32 0, .string v] := by kernel_rfl

set_option maxRecDepth 100000 in
set_option maxHeartbeats 4000000 in
theorem names_walk (l : List UInt8) (w : World) :
    Calls Try.prog 6 #[.string (txt l)] w fun e w' => e = .returned (.bool true) ∧ Below w.heap.size w w' := by
  have hz := txt_size l
  have ht := txt_toList l
  go_enter Try.func6, Try.ntmps6
  go_wp2_with fail
  refine (awake_any w).mono ?_
  rintro en w1 ⟨rfl, hb1⟩
  have HW1 := Lib.hid hb1
  clear hb1
  by_cases hn : 60 < l.length
  · have hd : decide ((60 : Int) < (l.length : Int)) = true := by simp; omega
    go_wp2_with fail
    go_ret
    exact ⟨rfl, HW1.out⟩
  have hd : decide ((60 : Int) < (l.length : Int)) = false := by simp; omega
  go_upto_region 6 with (fail)
  go_cut [4] (fun s4 w' => s4 = .bool (headOk l) ∧ w' = w1)
  case first =>
    have HH : Hid (headOk l = (decide (1 ≤ l.length) && decide (l.length ≤ 24) && !(l == [46]) && !(l == [46, 46]))) := rfl
    cases h3 : (l == [46]) <;> cases h4 : (l == [46, 46])
    all_goals
      by_cases h1 : 1 ≤ l.length
      · have h1' : (1 : Int) ≤ (l.length : Int) := by omega
        by_cases h2 : l.length ≤ 24
        · have h2' : (l.length : Int) ≤ 24 := by omega
          rw [h3, h4, decide_eq_true h1, decide_eq_true h2] at HH
          clear h1 h2
          go_wp2_with fail
          go_meet
          case rel => rw [HH.out]; exact ⟨rfl, rfl⟩
        · have h2' : 24 < (l.length : Int) := by omega
          rw [h3, h4, decide_eq_true h1, decide_eq_false h2] at HH
          clear h1 h2
          go_wp2_with fail
          go_meet
          case rel => rw [HH.out]; exact ⟨rfl, rfl⟩
      · have h1' : (l.length : Int) < 1 := by omega
        rw [h3, h4, decide_eq_false h1] at HH
        clear h1
        go_wp2_with fail
        go_meet
        case rel => rw [HH.out]; exact ⟨rfl, rfl⟩
  case rest =>
    obtain ⟨rfl, rfl⟩ := hcut
    have HNO := Lib.hid (nameOk_head l)
    clear hd
    generalize headOk l = m at *
    go_wp2_with fail
    go_loop [4, 5] (fun s4 i => ∃ k : Nat, k ≤ l.length ∧ i = .int .i64 k ∧ s4 = .bool (m && !parts (l.take k))) (fun _ i => l.length - (intOf i).toNat)
    case atStart => exact ⟨0, Nat.zero_le _, rfl, by cases m <;> rfl⟩
    case round =>
      obtain ⟨k, hk, rfl, rfl⟩ := hrel
      by_cases hlt : k < l.length
      · have hkt : k < (txt l).size := by rw [hz]; exact hlt
        obtain ⟨x, hx, hp⟩ := parts_at l k hlt
        have HP := Lib.hid hp
        have hx := hx hkt
        clear hp
        have n0 := u8_ne x 0 0 rfl
        have n47 := u8_ne x 47 47 rfl
        generalize parts (l.take k) = p at *
        cases hm : (m && !p)
        · have HV : Hid ((m && !parts (l.take (k + 1))) = false) := by
            show _ = _
            rw [HP.out]
            revert hm
            cases m <;> cases p <;> simp
          clear hm
          go_wp2_with fail
          go_round
          case rel => exact ⟨k + 1, by omega, by go_num, by rw [HV.out]⟩
          case measure => simp [intOf]; omega
        · cases hx0 : (x == 0) <;> cases hx47 : (x == 47)
          all_goals
            rw [hx0] at n0
            rw [hx47] at n47
            have HV := HP.out
            rw [hx0, hx47] at HV
            have HVV := Lib.hid HV
            clear hx0 hx47 HV
            go_wp2_with fail
            go_round
            case rel => exact ⟨k + 1, by omega, by go_num, by rw [HVV.out]; revert hm; cases m <;> cases p <;> simp⟩
            case measure => simp [intOf]; omega
      · have : k = l.length := by omega
        subst this
        have e1 : l.take l.length = l := List.take_of_length_le (Nat.le_refl _)
        rw [e1]
        have HAE := Lib.hid (addE_nil ⟨1, 0, 0, l⟩ (Nat.one_pos))
        have HNE := fun W => Lib.hid (name_any l W)
        clear e1
        unfold nameE at HNE
        rw [HNO.out] at HNE
        rw [show nameOk (En.mk 1 0 0 l).nm = nameOk l from rfl, HNO.out] at HAE
        generalize (m && !parts l) = z at *
        go_wp2_with (refine Did.list rfl (did_build 41 #[(0, .const (.int .u64 1)), (2, .tmp 50)] rfl _ (built_N (txt l))) ?_)
        refine (add_any none 0 0 [] ⟨1, 0, 0, l⟩ _ ES.nil (fun x hx => by cases hx) ⟨by show 1 < _; decide, by show 0 < _; decide, by show 0 < _; decide⟩ (by omega)).mono ?_
        rintro en w2 ⟨A2, n2, c2, rfl, _, _, hb2⟩
        rw [HAE.out]
        have HW2 := Lib.hid (HW1.out.trans (hb2.mono HW1.out.size))
        clear hb2
        cases z
        all_goals
          simp only [if_true, if_false, Bool.false_eq_true] at *
          go_wp2_with fail
          refine ((HNE _).out).mono ?_
          rintro en w3 ⟨rfl, hb3⟩
          have HW3 := Lib.hid (HW2.out.trans (hb3.mono HW2.out.size))
          clear hb3
          go_wp2_with fail
          go_ret
          exact ⟨rfl, HW3.out⟩
end Go.Proofs.Ytcbmdcgaedkfnaa
