/-
  The inner loops of VolKeeps, as declarations of their own (layer 12).
-/
import Derived.Test.YtnhokkdieijkhaaGreatDoorVKMem
namespace Go.Proofs.YtnhokkdieijkhaaGreatDoor
open Go.RowKit Go.Shelf
attribute [local go_sem] Oper.semAt_some

/-- The loops of a piece of code that lie in no other one of its loops. -/
def loopsOf : Code → List Code
  | .loop c => [c]
  | .seq a b => loopsOf a ++ loopsOf b
  | .block _ c => loopsOf c
  | .scope c => loopsOf c
  | .cond _ a b => loopsOf a ++ loopsOf b
  | _ => []
noncomputable def bodyA : Code := (loopsOf (Tryz.f3.body.getD .skip)).getD 1 .skip
noncomputable def body3 : Code := (loopsOf bodyA).getD 0 .skip
noncomputable def body4 : Code := (loopsOf bodyA).getD 1 .skip
noncomputable def body6 : Code := (loopsOf bodyA).getD 2 .skip
noncomputable def body7 : Code := (loopsOf bodyA).getD 3 .skip
theorem Vl.upd_if (S Z : Nat → Vl.Th) (m : Nat) : Vl.upd (fun i => if i < m then S i else Z i) m (S m) = fun i => if i < m + 1 then S i else Z i := by
  funext i
  unfold Vl.upd
  dsimp only
  by_cases e : i = m
  · subst e
    rw [if_pos rfl, if_pos (by omega)]
  · rw [if_neg e]
    by_cases h : i < m
    · rw [if_pos h, if_pos (by omega)]
    · rw [if_neg h, if_neg (by omega)]

set_option maxRecDepth 1000000 in
set_option maxHeartbeats 8000000 in
/-- The copy. -/
theorem keep_loop3 (W0 W : World) (g g2 : Nat) (S : Nat → Vl.Th) (sl sl0 : Nat → Sl) (hlt : g < W0.heap.size) (h2 : W0.heap.size ≤ g2) (hg : KR W0 g S sl) (hg2 : KR W g2 (fun _ => Sl.zero) sl0) (hbe : Below W0.heap.size W0 W)
    (c0 c1 c2 c3 c4 c5 c6 c7 c9 c10 c11 c14 c15 c16 c17 c18 c19 c20 c21 c22 c23 c24 c25 c26 c27 c28 c29 c30 c31 c32 c33 c34 c35 c36 c37 c38 c39 c40 c41 c42 c43 c44 c45 c46 c47 c48 c49 c50 c51 c52 c53 c54 c55 c56 c57 c58 c59 c60 c61 c62 c74 c75 c76 c77 c78 c79 c80 c81 c82 c83 c84 c85 c86 c87 c88 c89 c90 c91 c92 c93 c94 c95 c96 c97 c98 c99 c100 c101 c102 c103 c104 c105 c106 c107 c108 c109 c110 c111 c112 c113 c114 c115 c116 c117 c118 c119 c120 c121 c122 c123 c124 c125 c126 c127 c128 c129 c130 c131 c132 c133 c134 c135 c136 c137 c138 c139 c140 c141 c142 c143 c144 c145 c146 c147 c148 c149 c150 c151 c152 c153 c154 c155 c156 c157 c158 c159 c160 c161 c162 c163 c164 c165 c166 c167 c168 c169 c170 c171 c172 c173 c174 c175 c176 c177 c178 c179 c180 c181 c182 c183 c184 c185 c186 c187 c188 c189 c190 c191 c192 c193 c194 c195 c196 c197 c198 c199 c200 c201 c202 c203 c204 c205 c206 c207 c208 c209 c210 c211 c212 c213 c214 : Value) (u63 u64 u65 u66 u67 u68 u69 u70 u71 u72 u73 : Value) (Q0 : Exit → Act → World → Prop)
    (hexit : ∀ (v63 v64 v65 v66 v67 v68 v69 v70 v71 v72 v73 : Value) (W' : World) (sl' : Nat → Sl), KR W' g2 S sl' → Below W0.heap.size W0 W' → Q0 (.exit 4) ⟨List.toArray (c0 :: c1 :: c2 :: c3 :: c4 :: c5 :: c6 :: c7 :: .slice (some ⟨g, 0, none⟩) 24 24 :: c9 :: c10 :: c11 :: .slice (some ⟨g2, 0, none⟩) 24 24 :: .int .i64 24 :: c14 :: c15 :: c16 :: c17 :: c18 :: c19 :: c20 :: c21 :: c22 :: c23 :: c24 :: c25 :: c26 :: c27 :: c28 :: c29 :: c30 :: c31 :: c32 :: c33 :: c34 :: c35 :: c36 :: c37 :: c38 :: c39 :: c40 :: c41 :: c42 :: c43 :: c44 :: c45 :: c46 :: c47 :: c48 :: c49 :: c50 :: c51 :: c52 :: c53 :: c54 :: c55 :: c56 :: c57 :: c58 :: c59 :: c60 :: c61 :: c62 :: v63 :: v64 :: v65 :: v66 :: v67 :: v68 :: v69 :: v70 :: v71 :: v72 :: v73 :: c74 :: c75 :: c76 :: c77 :: c78 :: c79 :: c80 :: c81 :: c82 :: c83 :: c84 :: c85 :: c86 :: c87 :: c88 :: c89 :: c90 :: c91 :: c92 :: c93 :: c94 :: c95 :: c96 :: c97 :: c98 :: c99 :: c100 :: c101 :: c102 :: c103 :: c104 :: c105 :: c106 :: c107 :: c108 :: c109 :: c110 :: c111 :: c112 :: c113 :: c114 :: c115 :: c116 :: c117 :: c118 :: c119 :: c120 :: c121 :: c122 :: c123 :: c124 :: c125 :: c126 :: c127 :: c128 :: c129 :: c130 :: c131 :: c132 :: c133 :: c134 :: c135 :: c136 :: c137 :: c138 :: c139 :: c140 :: c141 :: c142 :: c143 :: c144 :: c145 :: c146 :: c147 :: c148 :: c149 :: c150 :: c151 :: c152 :: c153 :: c154 :: c155 :: c156 :: c157 :: c158 :: c159 :: c160 :: c161 :: c162 :: c163 :: c164 :: c165 :: c166 :: c167 :: c168 :: c169 :: c170 :: c171 :: c172 :: c173 :: c174 :: c175 :: c176 :: c177 :: c178 :: c179 :: c180 :: c181 :: c182 :: c183 :: c184 :: c185 :: c186 :: c187 :: c188 :: c189 :: c190 :: c191 :: c192 :: c193 :: c194 :: c195 :: c196 :: c197 :: c198 :: c199 :: c200 :: c201 :: c202 :: c203 :: c204 :: c205 :: c206 :: c207 :: c208 :: c209 :: c210 :: c211 :: c212 :: c213 :: c214 :: []), []⟩ W') :
    Code.wp Tryz.prog (Code.loop body3) Q0 ⟨List.toArray (c0 :: c1 :: c2 :: c3 :: c4 :: c5 :: c6 :: c7 :: .slice (some ⟨g, 0, none⟩) 24 24 :: c9 :: c10 :: c11 :: .slice (some ⟨g2, 0, none⟩) 24 24 :: .int .i64 0 :: c14 :: c15 :: c16 :: c17 :: c18 :: c19 :: c20 :: c21 :: c22 :: c23 :: c24 :: c25 :: c26 :: c27 :: c28 :: c29 :: c30 :: c31 :: c32 :: c33 :: c34 :: c35 :: c36 :: c37 :: c38 :: c39 :: c40 :: c41 :: c42 :: c43 :: c44 :: c45 :: c46 :: c47 :: c48 :: c49 :: c50 :: c51 :: c52 :: c53 :: c54 :: c55 :: c56 :: c57 :: c58 :: c59 :: c60 :: c61 :: c62 :: u63 :: u64 :: u65 :: u66 :: u67 :: u68 :: u69 :: u70 :: u71 :: u72 :: u73 :: c74 :: c75 :: c76 :: c77 :: c78 :: c79 :: c80 :: c81 :: c82 :: c83 :: c84 :: c85 :: c86 :: c87 :: c88 :: c89 :: c90 :: c91 :: c92 :: c93 :: c94 :: c95 :: c96 :: c97 :: c98 :: c99 :: c100 :: c101 :: c102 :: c103 :: c104 :: c105 :: c106 :: c107 :: c108 :: c109 :: c110 :: c111 :: c112 :: c113 :: c114 :: c115 :: c116 :: c117 :: c118 :: c119 :: c120 :: c121 :: c122 :: c123 :: c124 :: c125 :: c126 :: c127 :: c128 :: c129 :: c130 :: c131 :: c132 :: c133 :: c134 :: c135 :: c136 :: c137 :: c138 :: c139 :: c140 :: c141 :: c142 :: c143 :: c144 :: c145 :: c146 :: c147 :: c148 :: c149 :: c150 :: c151 :: c152 :: c153 :: c154 :: c155 :: c156 :: c157 :: c158 :: c159 :: c160 :: c161 :: c162 :: c163 :: c164 :: c165 :: c166 :: c167 :: c168 :: c169 :: c170 :: c171 :: c172 :: c173 :: c174 :: c175 :: c176 :: c177 :: c178 :: c179 :: c180 :: c181 :: c182 :: c183 :: c184 :: c185 :: c186 :: c187 :: c188 :: c189 :: c190 :: c191 :: c192 :: c193 :: c194 :: c195 :: c196 :: c197 :: c198 :: c199 :: c200 :: c201 :: c202 :: c203 :: c204 :: c205 :: c206 :: c207 :: c208 :: c209 :: c210 :: c211 :: c212 :: c213 :: c214 :: []), []⟩ W := by
  have HG := Lib.hid hg
  have HG2 : Hid (KR W g2 (fun i => if i < 0 then S i else Sl.zero) sl0) := hg2.congr fun i _ => by simp
  have HB := Lib.hid hbe
  have HE := Lib.hid hexit
  have HLT := Lib.hid hlt
  have H2 := Lib.hid h2
  clear hg hg2 hbe hexit hlt h2
  conv => arg 2; arg 1; whnf
  go_loopw [13] (fun b wr => ∃ m : Nat, m ≤ 24 ∧ b = .int .i64 m ∧ ∃ sl', Hid (KR wr g2 (fun i => if i < m then S i else Sl.zero) sl') ∧ Hid (Below W0.heap.size W0 wr)) (fun b _ => 24 - (intOf b).toNat)
  case atStart => exact ⟨0, by omega, rfl, _, HG2, HB⟩
  case round =>
    clear HG2 HB
    obtain ⟨m, hm, rfl, sl', HR, HB⟩ := hrel
    by_cases hlm : m < 24
    · have hmi : (m : Int) < 24 := by omega
      have HGR := Lib.hid (HG.out.below HB.out)
      have hbs := HGR.out.bs m hlm
      obtain ⟨sx, hsx⟩ : ∃ sx, sl m = sx := ⟨_, rfl⟩
      obtain ⟨th, hth⟩ : ∃ th, S m = th := ⟨_, rfl⟩
      have HAT : Hid (∀ j u, (sc th (.slice sx.a sx.n sx.c))[j]? = some u → (kro S sl 24)[m * 9 + j]? = some u) := by rw [← hsx, ← hth]; exact kro_at S sl hlm
      rw [hth, hsx] at hbs
      have HBS := Lib.hid hbs
      have HFIT : Hid (m * 9 + (sc th (.slice sx.a sx.n sx.c)).length ≤ (kro (fun i => if i < m then S i else Sl.zero) sl' 24).length) := by
        show _ ≤ _
        rw [kro_len]
        simp only [sc, List.length_cons, List.length_nil]
        omega
      have HUP : Hid (Vl.upd (fun i => if i < m then S i else Sl.zero) m th = fun i => if i < m + 1 then S i else Sl.zero) := by
        show _ = _
        rw [← hth]
        exact Vl.upd_if S (fun _ => Sl.zero) m
      clear hsx hth hbs
      go_wp2_with (first
        | (refine wpList_load_part rfl 32 (.tmp 71) rfl _ (m * 9) rfl _ Tryz.underlying32 rfl (sc th (.slice sx.a sx.n sx.c)) 32 _ HGR.out.row size_Sl HAT.out ?_)
        | (refine wpList_store_part rfl 32 (.tmp 73) (.tmp 72) rfl g2 (m * 9) (sc th (.slice sx.a sx.n sx.c)) rfl rfl 32 _ HR.out.row size_Sl HFIT.out (sc_row _ _ _ _) ?_
           intro w3 hb3 hs3 hk3
           have HN3 : Hid (KR w3 g2 (fun i => if i < m + 1 then S i else Sl.zero) (Vl.upd sl' m sx)) := by
             show KR _ _ _ _
             rw [← HUP.out]
             exact HR.out.put (s := sx) hlm hb3 hk3 HBS.out.1 HBS.out.2
           have HB3 : Hid (Below W0.heap.size W0 w3) := HB.out.trans (hk3.below2 (fun k hk => by have := H2.out; omega))
           clear hb3 hs3 hk3))
      go_roundw
      case rel => exact ⟨m + 1, by omega, by go_num, _, HN3, HB3⟩
      case measure => simp [intOf]; omega
    · obtain rfl : m = 24 := by omega
      go_wp2
      exact HE.out _ _ _ _ _ _ _ _ _ _ _ _ sl' (HR.out.congr fun i hi => by rw [if_pos hi]) HB.out

set_option maxRecDepth 1000000 in
set_option maxHeartbeats 8000000 in
/-- As many blocks as they need. -/
theorem keep_loop6 (W : World) (g2 : Nat) (S : Nat → Vl.Th) (sl : Nat → Sl) (hg2 : KR W g2 S sl) (hd : ∀ i, i < 24 → (S i).dt.length ≤ 1000)
    (c0 c1 c2 c3 c4 c5 c6 c7 c8 c9 c10 c11 c13 c14 c15 c16 c17 c20 c21 c22 c23 c24 c25 c26 c27 c28 c29 c30 c31 c32 c33 c34 c35 c36 c37 c38 c39 c40 c41 c42 c43 c44 c45 c46 c47 c48 c49 c50 c51 c52 c53 c54 c55 c56 c57 c58 c59 c60 c61 c62 c63 c64 c65 c66 c67 c68 c69 c70 c71 c72 c73 c74 c75 c76 c77 c78 c79 c80 c81 c82 c83 c84 c85 c86 c87 c88 c89 c90 c91 c92 c93 c94 c95 c96 c97 c98 c99 c100 c101 c102 c103 c104 c105 c106 c107 c108 c109 c110 c111 c112 c113 c114 c115 c116 c131 c132 c133 c134 c135 c136 c137 c138 c139 c140 c141 c142 c143 c144 c145 c146 c147 c148 c149 c150 c151 c152 c153 c154 c155 c156 c157 c158 c159 c160 c161 c162 c163 c164 c165 c166 c167 c168 c169 c170 c171 c172 c173 c174 c175 c176 c177 c178 c179 c180 c181 c182 c183 c184 c185 c186 c187 c188 c189 c190 c191 c192 c193 c194 c195 c196 c197 c198 c199 c200 c201 c202 c203 c204 c205 c206 c207 c208 c209 c210 c211 c212 c213 c214 : Value) (u117 u118 u119 u120 u121 u122 u123 u124 u125 u126 u127 u128 u129 u130 : Value) (Q0 : Exit → Act → World → Prop)
    (hexit : ∀ (v117 v118 v119 v120 v121 v122 v123 v124 v125 v126 v127 v128 v129 v130 : Value), Q0 (.exit 10) ⟨List.toArray (c0 :: c1 :: c2 :: c3 :: c4 :: c5 :: c6 :: c7 :: c8 :: c9 :: c10 :: c11 :: .slice (some ⟨g2, 0, none⟩) 24 24 :: c13 :: c14 :: c15 :: c16 :: c17 :: .int .i64 (Vl.tot S : Int) :: .int .i64 24 :: c20 :: c21 :: c22 :: c23 :: c24 :: c25 :: c26 :: c27 :: c28 :: c29 :: c30 :: c31 :: c32 :: c33 :: c34 :: c35 :: c36 :: c37 :: c38 :: c39 :: c40 :: c41 :: c42 :: c43 :: c44 :: c45 :: c46 :: c47 :: c48 :: c49 :: c50 :: c51 :: c52 :: c53 :: c54 :: c55 :: c56 :: c57 :: c58 :: c59 :: c60 :: c61 :: c62 :: c63 :: c64 :: c65 :: c66 :: c67 :: c68 :: c69 :: c70 :: c71 :: c72 :: c73 :: c74 :: c75 :: c76 :: c77 :: c78 :: c79 :: c80 :: c81 :: c82 :: c83 :: c84 :: c85 :: c86 :: c87 :: c88 :: c89 :: c90 :: c91 :: c92 :: c93 :: c94 :: c95 :: c96 :: c97 :: c98 :: c99 :: c100 :: c101 :: c102 :: c103 :: c104 :: c105 :: c106 :: c107 :: c108 :: c109 :: c110 :: c111 :: c112 :: c113 :: c114 :: c115 :: c116 :: v117 :: v118 :: v119 :: v120 :: v121 :: v122 :: v123 :: v124 :: v125 :: v126 :: v127 :: v128 :: v129 :: v130 :: c131 :: c132 :: c133 :: c134 :: c135 :: c136 :: c137 :: c138 :: c139 :: c140 :: c141 :: c142 :: c143 :: c144 :: c145 :: c146 :: c147 :: c148 :: c149 :: c150 :: c151 :: c152 :: c153 :: c154 :: c155 :: c156 :: c157 :: c158 :: c159 :: c160 :: c161 :: c162 :: c163 :: c164 :: c165 :: c166 :: c167 :: c168 :: c169 :: c170 :: c171 :: c172 :: c173 :: c174 :: c175 :: c176 :: c177 :: c178 :: c179 :: c180 :: c181 :: c182 :: c183 :: c184 :: c185 :: c186 :: c187 :: c188 :: c189 :: c190 :: c191 :: c192 :: c193 :: c194 :: c195 :: c196 :: c197 :: c198 :: c199 :: c200 :: c201 :: c202 :: c203 :: c204 :: c205 :: c206 :: c207 :: c208 :: c209 :: c210 :: c211 :: c212 :: c213 :: c214 :: []), []⟩ W) :
    Code.wp Tryz.prog (Code.loop body6) Q0 ⟨List.toArray (c0 :: c1 :: c2 :: c3 :: c4 :: c5 :: c6 :: c7 :: c8 :: c9 :: c10 :: c11 :: .slice (some ⟨g2, 0, none⟩) 24 24 :: c13 :: c14 :: c15 :: c16 :: c17 :: .int .i64 0 :: .int .i64 0 :: c20 :: c21 :: c22 :: c23 :: c24 :: c25 :: c26 :: c27 :: c28 :: c29 :: c30 :: c31 :: c32 :: c33 :: c34 :: c35 :: c36 :: c37 :: c38 :: c39 :: c40 :: c41 :: c42 :: c43 :: c44 :: c45 :: c46 :: c47 :: c48 :: c49 :: c50 :: c51 :: c52 :: c53 :: c54 :: c55 :: c56 :: c57 :: c58 :: c59 :: c60 :: c61 :: c62 :: c63 :: c64 :: c65 :: c66 :: c67 :: c68 :: c69 :: c70 :: c71 :: c72 :: c73 :: c74 :: c75 :: c76 :: c77 :: c78 :: c79 :: c80 :: c81 :: c82 :: c83 :: c84 :: c85 :: c86 :: c87 :: c88 :: c89 :: c90 :: c91 :: c92 :: c93 :: c94 :: c95 :: c96 :: c97 :: c98 :: c99 :: c100 :: c101 :: c102 :: c103 :: c104 :: c105 :: c106 :: c107 :: c108 :: c109 :: c110 :: c111 :: c112 :: c113 :: c114 :: c115 :: c116 :: u117 :: u118 :: u119 :: u120 :: u121 :: u122 :: u123 :: u124 :: u125 :: u126 :: u127 :: u128 :: u129 :: u130 :: c131 :: c132 :: c133 :: c134 :: c135 :: c136 :: c137 :: c138 :: c139 :: c140 :: c141 :: c142 :: c143 :: c144 :: c145 :: c146 :: c147 :: c148 :: c149 :: c150 :: c151 :: c152 :: c153 :: c154 :: c155 :: c156 :: c157 :: c158 :: c159 :: c160 :: c161 :: c162 :: c163 :: c164 :: c165 :: c166 :: c167 :: c168 :: c169 :: c170 :: c171 :: c172 :: c173 :: c174 :: c175 :: c176 :: c177 :: c178 :: c179 :: c180 :: c181 :: c182 :: c183 :: c184 :: c185 :: c186 :: c187 :: c188 :: c189 :: c190 :: c191 :: c192 :: c193 :: c194 :: c195 :: c196 :: c197 :: c198 :: c199 :: c200 :: c201 :: c202 :: c203 :: c204 :: c205 :: c206 :: c207 :: c208 :: c209 :: c210 :: c211 :: c212 :: c213 :: c214 :: []), []⟩ W := by
  have HG2 := Lib.hid hg2
  have HD := Lib.hid hd
  have HE := Lib.hid hexit
  clear hg2 hexit hd
  conv => arg 2; arg 1; whnf
  go_loop [18, 19] (fun a b => ∃ m t : Nat, m ≤ 24 ∧ b = .int .i64 m ∧ a = .int .i64 t ∧ Hid (Vl.part24 S m = t) ∧ t ≤ 11 * m) (fun _ b => 24 - (intOf b).toNat)
  case atStart => exact ⟨0, 0, by omega, rfl, rfl, rfl, by omega⟩
  case round =>
    obtain ⟨m, t, hm, rfl, rfl, HT, ht⟩ := hrel
    by_cases hlm : m < 24
    · have hmi : (m : Int) < 24 := by omega
      have hbs := (HG2.out.bs m hlm).1
      obtain ⟨sx, hsx⟩ : ∃ sx, sl m = sx := ⟨_, rfl⟩
      have q8 : W.cell? ⟨g2, m * 9 + 8, none⟩ = some (.slice sx.a sx.n sx.c) := by rw [← hsx]; exact HG2.out.cells hlm 8 _ rfl
      have hsn : (S m).dt.length = sx.n := by rw [← hsx]; exact hbs.1
      have hs1 : sx.n ≤ 1000 := by rw [← hsn]; exact HD.out m hlm
      have HN : Hid (Vl.part24 S (m + 1) = t + (sx.n + 95) / 96) := by
        show _ = _
        rw [Vl.part24_succ, HT.out, hsn]
        rfl
      clear hsx hbs hsn
      go_wp2
      go_round
      case rel => exact ⟨m + 1, t + (sx.n + 95) / 96, by omega, by go_num, by go_num, HN, by omega⟩
      case measure => simp [intOf]; omega
    · obtain rfl : m = 24 := by omega
      have := HT.out
      rw [Vl.part24_all] at this
      subst this
      go_wp2
      exact HE.out _ _ _ _ _ _ _ _ _ _ _ _ _ _

set_option maxRecDepth 1000000 in
set_option maxHeartbeats 8000000 in
/-- They are the same. -/
theorem keep_loop7 (W0 W : World) (g : Nat) (S : Nat → Vl.Th) (sl : Nat → Sl) (A7 : Option Addr) (k7 : Nat) (hg : KR W0 g S sl) (hss : SS W0 A7 24 ((List.range 24).map S)) (hd : ∀ i, i < 24 → (S i).dt.length ≤ 1000) (hbe : Below W0.heap.size W0 W)
    (c0 c1 c2 c3 c5 c6 c7 c9 c10 c11 c12 c13 c14 c15 c16 c17 c19 c20 c22 c24 c25 c26 c27 c28 c29 c30 c31 c32 c33 c34 c35 c36 c37 c38 c39 c40 c41 c42 c43 c44 c45 c46 c47 c48 c49 c50 c51 c52 c53 c54 c55 c56 c57 c58 c59 c60 c61 c62 c63 c64 c65 c66 c67 c68 c69 c70 c71 c72 c73 c74 c75 c76 c77 c78 c79 c80 c81 c82 c83 c84 c85 c86 c87 c88 c89 c90 c91 c92 c93 c94 c95 c96 c97 c98 c99 c100 c101 c102 c103 c104 c105 c106 c107 c108 c109 c110 c111 c112 c113 c114 c115 c116 c117 c118 c119 c120 c121 c122 c123 c124 c125 c126 c127 c128 c129 c130 c131 c132 c133 c134 c135 c136 c137 c138 c139 c140 c141 c142 c143 c144 c145 c146 c147 c148 c149 c150 c151 c152 c153 c154 c155 c156 c157 c158 c159 c160 c161 c162 c163 c164 c165 c166 c167 c168 c169 c170 c171 c172 c173 c174 c175 c176 c177 c178 c179 c180 c181 c182 c183 c184 c209 c210 c211 c212 c213 c214 : Value) (u4 u185 u186 u187 u188 u189 u190 u191 u192 u193 u194 u195 u196 u197 u198 u199 u200 u201 u202 u203 u204 u205 u206 u207 u208 : Value) (Q0 : Exit → Act → World → Prop)
    (hexit : ∀ (v4 v185 v186 v187 v188 v189 v190 v191 v192 v193 v194 v195 v196 v197 v198 v199 v200 v201 v202 v203 v204 v205 v206 v207 v208 : Value) (W' : World), Below W0.heap.size W0 W' → Q0 (.exit 12) ⟨List.toArray (c0 :: c1 :: c2 :: c3 :: v4 :: c5 :: c6 :: c7 :: .slice (some ⟨g, 0, none⟩) 24 24 :: c9 :: c10 :: c11 :: c12 :: c13 :: c14 :: c15 :: c16 :: c17 :: .int .i64 (Vl.tot S : Int) :: c19 :: c20 :: .slice A7 24 k7 :: c22 :: .int .i64 24 :: c24 :: c25 :: c26 :: c27 :: c28 :: c29 :: c30 :: c31 :: c32 :: c33 :: c34 :: c35 :: c36 :: c37 :: c38 :: c39 :: c40 :: c41 :: c42 :: c43 :: c44 :: c45 :: c46 :: c47 :: c48 :: c49 :: c50 :: c51 :: c52 :: c53 :: c54 :: c55 :: c56 :: c57 :: c58 :: c59 :: c60 :: c61 :: c62 :: c63 :: c64 :: c65 :: c66 :: c67 :: c68 :: c69 :: c70 :: c71 :: c72 :: c73 :: c74 :: c75 :: c76 :: c77 :: c78 :: c79 :: c80 :: c81 :: c82 :: c83 :: c84 :: c85 :: c86 :: c87 :: c88 :: c89 :: c90 :: c91 :: c92 :: c93 :: c94 :: c95 :: c96 :: c97 :: c98 :: c99 :: c100 :: c101 :: c102 :: c103 :: c104 :: c105 :: c106 :: c107 :: c108 :: c109 :: c110 :: c111 :: c112 :: c113 :: c114 :: c115 :: c116 :: c117 :: c118 :: c119 :: c120 :: c121 :: c122 :: c123 :: c124 :: c125 :: c126 :: c127 :: c128 :: c129 :: c130 :: c131 :: c132 :: c133 :: c134 :: c135 :: c136 :: c137 :: c138 :: c139 :: c140 :: c141 :: c142 :: c143 :: c144 :: c145 :: c146 :: c147 :: c148 :: c149 :: c150 :: c151 :: c152 :: c153 :: c154 :: c155 :: c156 :: c157 :: c158 :: c159 :: c160 :: c161 :: c162 :: c163 :: c164 :: c165 :: c166 :: c167 :: c168 :: c169 :: c170 :: c171 :: c172 :: c173 :: c174 :: c175 :: c176 :: c177 :: c178 :: c179 :: c180 :: c181 :: c182 :: c183 :: c184 :: v185 :: v186 :: v187 :: v188 :: v189 :: v190 :: v191 :: v192 :: v193 :: v194 :: v195 :: v196 :: v197 :: v198 :: v199 :: v200 :: v201 :: v202 :: v203 :: v204 :: v205 :: v206 :: v207 :: v208 :: c209 :: c210 :: c211 :: c212 :: c213 :: c214 :: []), []⟩ W') :
    Code.wp Tryz.prog (Code.loop body7) Q0 ⟨List.toArray (c0 :: c1 :: c2 :: c3 :: u4 :: c5 :: c6 :: c7 :: .slice (some ⟨g, 0, none⟩) 24 24 :: c9 :: c10 :: c11 :: c12 :: c13 :: c14 :: c15 :: c16 :: c17 :: .int .i64 0 :: c19 :: c20 :: .slice A7 24 k7 :: c22 :: .int .i64 0 :: c24 :: c25 :: c26 :: c27 :: c28 :: c29 :: c30 :: c31 :: c32 :: c33 :: c34 :: c35 :: c36 :: c37 :: c38 :: c39 :: c40 :: c41 :: c42 :: c43 :: c44 :: c45 :: c46 :: c47 :: c48 :: c49 :: c50 :: c51 :: c52 :: c53 :: c54 :: c55 :: c56 :: c57 :: c58 :: c59 :: c60 :: c61 :: c62 :: c63 :: c64 :: c65 :: c66 :: c67 :: c68 :: c69 :: c70 :: c71 :: c72 :: c73 :: c74 :: c75 :: c76 :: c77 :: c78 :: c79 :: c80 :: c81 :: c82 :: c83 :: c84 :: c85 :: c86 :: c87 :: c88 :: c89 :: c90 :: c91 :: c92 :: c93 :: c94 :: c95 :: c96 :: c97 :: c98 :: c99 :: c100 :: c101 :: c102 :: c103 :: c104 :: c105 :: c106 :: c107 :: c108 :: c109 :: c110 :: c111 :: c112 :: c113 :: c114 :: c115 :: c116 :: c117 :: c118 :: c119 :: c120 :: c121 :: c122 :: c123 :: c124 :: c125 :: c126 :: c127 :: c128 :: c129 :: c130 :: c131 :: c132 :: c133 :: c134 :: c135 :: c136 :: c137 :: c138 :: c139 :: c140 :: c141 :: c142 :: c143 :: c144 :: c145 :: c146 :: c147 :: c148 :: c149 :: c150 :: c151 :: c152 :: c153 :: c154 :: c155 :: c156 :: c157 :: c158 :: c159 :: c160 :: c161 :: c162 :: c163 :: c164 :: c165 :: c166 :: c167 :: c168 :: c169 :: c170 :: c171 :: c172 :: c173 :: c174 :: c175 :: c176 :: c177 :: c178 :: c179 :: c180 :: c181 :: c182 :: c183 :: c184 :: u185 :: u186 :: u187 :: u188 :: u189 :: u190 :: u191 :: u192 :: u193 :: u194 :: u195 :: u196 :: u197 :: u198 :: u199 :: u200 :: u201 :: u202 :: u203 :: u204 :: u205 :: u206 :: u207 :: u208 :: c209 :: c210 :: c211 :: c212 :: c213 :: c214 :: []), []⟩ W := by
  have HG := Lib.hid hg
  have HSS := Lib.hid hss
  have HD := Lib.hid hd
  have HB := Lib.hid hbe
  have HE := Lib.hid hexit
  clear hg hexit hd hbe hss
  conv => arg 2; arg 1; whnf
  go_loopw [18, 23] (fun a b wr => ∃ m t : Nat, m ≤ 24 ∧ b = .int .i64 m ∧ a = .int .i64 t ∧ Hid (Vl.part24 S m = t) ∧ t ≤ 11 * m ∧ Hid (Below W0.heap.size W0 wr)) (fun _ b _ => 24 - (intOf b).toNat)
  case atStart => exact ⟨0, 0, by omega, rfl, rfl, rfl, by omega, HB⟩
  case round =>
    clear HB
    obtain ⟨m, t, hm, rfl, rfl, HT, ht, HB⟩ := hrel
    by_cases hlm : m < 24
    · have hmi : (m : Int) < 24 := by omega
      have HGR := Lib.hid (HG.out.below HB.out)
      obtain ⟨b, ob, y, hl, rfl, hc, hbs, -⟩ := (HSS.out.below HB.out).at hlm
      simp only [List.getElem_map, List.getElem_range] at hc hbs
      have hbs2 := (HGR.out.bs m hlm).1
      obtain ⟨sx, hsx⟩ : ∃ sx, sl m = sx := ⟨_, rfl⟩
      have HC2 : Hid (∀ j u, (sc (S m) (.slice sx.a sx.n sx.c))[j]? = some u → wr.cell? ⟨g, m * 9 + j, none⟩ = some u) := by rw [← hsx]; exact HGR.out.cells hlm
      have hsn : (S m).dt.length = sx.n := by rw [← hsx]; exact hbs2.1
      rw [hsx] at hbs2
      have hs1 : sx.n ≤ 1000 := by rw [← hsn]; exact HD.out m hlm
      have HN : Hid (Vl.part24 S (m + 1) = t + (sx.n + 95) / 96) := by
        show _ = _
        rw [Vl.part24_succ, HT.out, hsn]
        rfl
      have HC := Lib.hid hc
      have HB1 := Lib.hid hbs
      have HB2 := Lib.hid hbs2
      generalize S m = th at *
      clear hsx hbs2 hsn hc hbs hl
      have HD1 : Hid (∀ j u, (sc th (.slice y.a y.n y.c))[j]? = some u → wr.drew.cell? ((⟨b, ob + m * 9, none⟩ : Addr).add j) = some u) := fun j u hu => by
        rw [add_plain]
        exact HC.out j u hu
      have HD2 : Hid (∀ j u, (sc th (.slice sx.a sx.n sx.c))[j]? = some u → wr.drew.cell? ((⟨g, m * 9, none⟩ : Addr).add j) = some u) := fun j u hu => by
        rw [add_plain]
        exact HC2.out j u hu
      go_upto_region 53 with fail
      with_reducible refine wp_region_still_tail 8 (by kernel_rfl) (by kernel_rfl) ?_
      simp only [List.take_succ_cons, List.take_zero, List.drop_succ_cons, List.drop_zero]
      iterate 3 still_step
      refine wpStill_did rfl (did_load 32 (.tmp 191) rfl ⟨b, ob + m * 9, none⟩ rfl _ Tryz.underlying32 rfl (sc th (.slice y.a y.n y.c)) size_Sl HD1.out) ?_
      iterate 3 still_step
      refine wpStill_did rfl (did_load 32 (.tmp 195) rfl ⟨g, m * 9, none⟩ rfl _ Tryz.underlying32 rfl (sc th (.slice sx.a sx.n sx.c)) size_Sl HD2.out) ?_
      refine wpStill_nil ?_
      go_wp2_with fail
      have hdr : Below wr.heap.size wr wr.drew := (Below.refl _ _).drew
      refine (sameS_any th th y.a y.n y.c sx.a sx.n sx.c _ (HB1.out.below hdr) (HB2.out.below hdr)).mono ?_
      rintro e w9 ⟨rfl, hw9⟩
      have hb9 : Below wr.heap.size wr w9 := hdr.trans hw9
      have HB9 := Lib.hid (HB.out.trans (hb9.mono HB.out.size))
      have q8 : w9.cell? ⟨g, m * 9 + 8, none⟩ = some (.slice sx.a sx.n sx.c) := by
        have h1 := HC2.out 8 _ rfl
        exact (hb9.cell (p := ⟨g, m * 9 + 8, none⟩) (World.block_lt_of_cell? wr _ h1)).trans h1
      clear hw9 hb9 hdr HD1 HD2 HB1 HB2 HC HC2
      go_wp2_with fail
      go_roundw
      case rel => exact ⟨m + 1, t + (sx.n + 95) / 96, by omega, by go_num, by go_num, HN, by omega, HB9⟩
      case measure => simp [intOf]; omega
    · obtain rfl : m = 24 := by omega
      have := HT.out
      rw [Vl.part24_all] at this
      subst this
      go_wp2
      exact HE.out _ _ _ _ _ _ _ _ _ _ _ _ _ _ _ _ _ _ _ _ _ _ _ _ _ _ HB.out
end Go.Proofs.YtnhokkdieijkhaaGreatDoor
