/- Joined texts (one file of a claim): RzC, RzD. Each one's own remark stands before it. -/
import Derived.Test.YthdjpmiohfaphaaGreatDoorRzA

/- RegisterAnswers: the first register made odd. -/
namespace Go.Proofs.YthdjpmiohfaphaaGreatDoor.reg
open Go.RowKit lex aggs kit net deck strs cal

set_option maxRecDepth 100000 in
set_option maxHeartbeats 16000000 in
theorem part2 : part1.fst := by
  intro la len cap zs ra RN rc rps s k t w hsz _k0 _k1 _t0 _t1 x hx W1 TAB RAW OX HR0 RK BX nm co sk fr un hpn hpk PX h5 h6 i1_ w1 bd HB w2 a N c ps V1 rb z0 c0 hV1 hrb hrbd G1 RG1 RB1 OKP hN6 LN RH1 a2 c2 w3 OWN3 RG3 GR3 i2_ i3_ base ob hob O0 i4_ i5_ i6_ i7_
  by_cases hN0 : 0 < N
  · have T0 : decide ((0 : Int) < (N : Int)) = true := decide_eq_true (by omega)
    have d0 := (cell_atR O0.out.odd 0).1
    go_wp2_with fail
    clear d0
    refine (O0.out.game.next HR0.out N (by omega)).mono ?_; rintro e W4 ⟨i, rfl, i0, i1, gm, gb⟩
    rw [show max (N : Int) 1 = (N : Int) from by omega] at i1
    obtain ⟨i, rfl⟩ : ∃ j : Nat, i = j := ⟨i.toNat, by omega⟩
    have O4 := Lib.hid (O0.out.draw gm gb)
    clear gm gb O0
    go_wp2_with fail
    refine (O4.out.game.next HR0.out 4 (by decide)).mono ?_; rintro e W5 ⟨v, rfl, v0, v1, gm, gb⟩
    rw [show max (4 : Int) 1 = 4 from rfl] at v1
    have O5 := Lib.hid (O4.out.draw gm gb)
    clear gm gb O4
    obtain ⟨g, rfl, hgb, hrow⟩ := O5.out.row hN0
    have hil : i < ps.length := by rw [LN.out]; omega
    have d0 := (cell_atR O5.out.odd 0).1
    rcases (show v = 0 ∨ v = 1 ∨ v = 2 ∨ v = 3 by omega) with h0 | h1 | h2 | h3
    · obtain rfl : v = 0 := by omega
      obtain ⟨f2, z2⟩ := hrow i hil 2 _ rfl
      have OZ := Lib.hid (O5.out.set i hil 2 (by decide) (.int .i64 32) ⟨ps[i].nm, ps[i].co, 32, ps[i].fr, ps[i].un⟩ rfl (show ps[i].nm.size ≤ maxLen from O5.out.fit _ (List.getElem_mem hil)) (show I64 (32 : Int) from ⟨by decide, by decide⟩))
      go_wp2_with fail
      go_meet
      case rel => exact ⟨_, OZ.out⟩
    · obtain rfl : v = 1 := by omega
      obtain ⟨f4, z4⟩ := hrow i hil 4 _ rfl
      obtain ⟨f3, -⟩ := hrow i hil 3 _ rfl
      go_wp2_with fail
      go_still_tail 11, (by kernel_rfl)
      have O6 := Lib.hid (O5.out.draw O5.out.game.drew (gb_drew (gb_refl W5 (some bd))))
      (try change wpList _ _ _ _ _ W5.drew)
      generalize W5.drew = W6 at O6 ⊢
      clear f4 z4
      obtain ⟨g', hg', -, hrow6⟩ := O6.out.row hN0
      obtain rfl : g = g' := by injection hg' with hg'; injection hg'
      obtain ⟨f4, z4⟩ := hrow6 i hil 4 _ rfl
      have OZ := Lib.hid (O6.out.set i hil 4 (by decide) (.int .i64 ps[i].fr) ⟨ps[i].nm, ps[i].co, ps[i].sk, ps[i].fr, ps[i].fr⟩ rfl (show ps[i].nm.size ≤ maxLen from O6.out.fit _ (List.getElem_mem hil)) (show I64 ps[i].sk from O6.out.sk _ (List.getElem_mem hil)))
      go_wp2_with fail
      go_meet
      case rel => exact ⟨_, OZ.out⟩
    · obtain rfl : v = 2 := by omega
      obtain ⟨f0, z0⟩ := hrow i hil 0 _ rfl
      obtain ⟨g0, -⟩ := hrow 0 (by omega) 0 _ rfl
      go_wp2_with fail
      go_still_tail 10, (by kernel_rfl)
      have O6 := Lib.hid (O5.out.draw O5.out.game.drew (gb_drew (gb_refl W5 (some bd))))
      (try change wpList _ _ _ _ _ W5.drew)
      generalize W5.drew = W6 at O6 ⊢
      clear f0 z0
      obtain ⟨g', hg', -, hrow6⟩ := O6.out.row hN0
      obtain rfl : g = g' := by injection hg' with hg'; injection hg'
      obtain ⟨f0, z0⟩ := hrow6 i hil 0 _ rfl
      rw [Nat.add_zero] at f0 z0
      have OZ := Lib.hid (O6.out.set i hil 0 (by decide) (.string (ps[0]'(by omega)).nm) ⟨(ps[0]'(by omega)).nm, ps[i].co, ps[i].sk, ps[i].fr, ps[i].un⟩ rfl (show (ps[0]'(by omega)).nm.size ≤ maxLen from O6.out.fit _ (List.getElem_mem _)) (show I64 ps[i].sk from O6.out.sk _ (List.getElem_mem hil)))
      rw [Nat.add_zero] at OZ
      go_wp2_with fail
      go_meet
      case rel => exact ⟨_, OZ.out⟩
    · obtain rfl : v = 3 := by omega
      obtain ⟨f1, z1⟩ := hrow i hil 1 _ rfl
      have OZ := Lib.hid (O5.out.set i hil 1 (by decide) (.int .i64 8) ⟨ps[i].nm, 8, ps[i].sk, ps[i].fr, ps[i].un⟩ rfl (show ps[i].nm.size ≤ maxLen from O5.out.fit _ (List.getElem_mem hil)) (show I64 ps[i].sk from O5.out.sk _ (List.getElem_mem hil)))
      go_wp2_with fail
      go_meet
      case rel => exact ⟨_, OZ.out⟩
  · obtain rfl : N = 0 := by omega
    have T0 : decide ((0 : Int) < ((0 : Nat) : Int)) = false := rfl
    go_wp2_with fail
    go_meet
    case rel => exact ⟨ps, O0.out⟩
end Go.Proofs.YthdjpmiohfaphaaGreatDoor.reg

/- RegisterAnswers: a round of the loop over the registers. -/
namespace Go.Proofs.YthdjpmiohfaphaaGreatDoor.reg
open Go.RowKit lex aggs kit net deck strs cal

set_option maxRecDepth 100000 in
set_option maxHeartbeats 16000000 in
theorem part3 : part1.snd.fst := by
  intro la len cap zs ra RN rc rps s k t w hsz _k0 _k1 _t0 _t1 x hx W1 TAB RAW OX HR0 RK BX nm co sk fr un hpn hpk PX h5 h6 i1_ w1 bd HB w2 a N c ps V1 rb z0 c0 hV1 hrb hrbd G1 RG1 RB1 OKP hN6 LN RH1 a2 c2 w3 OWN3 RG3 GR3 base ob hob wc u16 u47 u48 u49 u50 u51 u52 u53 u54 u55 u56 u57 u58 u59 u60 u61 u62 u63 u64 u65 u66 u67 u68 u69 u70 u71 u72 u73 u74 u75 u76 u77 u78 u79 u80 u81 u82 u83 u84 u85 u86 u87 u88 u89 u90 u91 u92 u93 u94 u95 u96 u97 u98 u99 u100 u101 u102 u103 u104 u105 u106 u107 u108 u109 u110 u111 u112 u113 u114 u115 u116 u117 u118 u119 u120 u121 u122 u123 u124 u125 i2_ i3_ i4_ i5_ i6_ i7_ i8_ i9_ i10_ i11_ i12_ i13_ i14_ i15_ i16_ i17_ i18_ i19_ i20_ i21_ i22_ i23_ i24_ i25_ i26_ i27_ i28_ i29_ i30_ i31_ i32_ i33_ i34_ i35_ i36_ i37_ i38_ i39_ i40_ i41_ i42_ i43_ i44_ i45_ i46_ i47_ i48_ i49_ i50_ i51_ i52_ i53_ i54_ i55_ i56_ i57_ i58_ i59_ i60_ i61_ i62_ i63_ i64_ i65_ i66_ i67_ i68_ i69_ i70_ i71_ i72_ i73_ i74_ i75_ i76_ i77_ i78_ i79_ i80_ i81_ i82_ i83_ i84_ i85_ i86_ i87_ i88_ i89_ i90_ i91_ i92_ i93_ i94_ i95_ i96_ i97_ i98_ i99_ i100_ i101_ i102_ i103_ i104_ i105_ i106_ u240 u241 u242 u243 u244 u245 u246 u247 u248 u249 u250 u251 u252 u253 u254 u255 u256 u257 u258 u259 u260 u261 u262 u263 u264 u265 u266 u267 u268 u269 u273 u274 u275 u276 u277 u278 u279 u280 u281 u282 u283 u284 u285 u286 u287 u288 u289 u290 u291 u292 u293 u294 u295 u296 u297 u298 u299 u300 u301 u302 u303 qs tx htz W6 i107_ i108_ V sb GV hsbd i109_ TR hsl wr u12 u20 u22 u23 u24 u25 u26 u28 u29 u30 u31 u32 u33 u34 u35 u36 u129 u130 u131 u132 u133 u134 u135 u136 u137 u138 u139 u140 u141 u142 u143 u144 u145 u146 u147 u148 u149 u150 u151 u152 u153 u154 u155 u156 u157 u158 u159 u160 u161 u162 u163 u164 u165 u166 u167 u168 u169 u170 u171 u172 u173 u174 u175 u176 u177 u178 u179 u180 u181 u182 u183 u184 u185 u186 u187 u188 u189 u190 u191 u192 u193 u194 u195 u196 u197 u198 u199 u200 u201 u202 u203 u204 u205 u206 u207 u208 u209 u210 u211 u212 u213 u214 u215 u216 u217 u218 u219 u220 u221 u222 u223 u224 u225 u226 u227 u228 u229 u230 u231 u232 u233 u234 u235 u236 u237 u238 u239 i hi3 GW GR hlt
  have hii : (i : Int) < 3 := by omega
  obtain ⟨b, M, d, us, hcv, hRv, hKv⟩ := TR.out i hlt
  have KUS := Lib.hid hKv
  have cw : wr.cell? ⟨sb, i, none⟩ = some (.slice b M d) := GR.out.cell hcv (by simpa using hsbd)
  have hRw := hRv.far GV.out.deck GR.out
  have bw := below_box wr (.cells #[.slice b M d] 25)
  have hzw := heap_alloc_new wr (.cells #[.slice b M d] 25)
  obtain ⟨yb, hyb⟩ : ∃ b, wr.heap.size = b := ⟨_, rfl⟩
  obtain ⟨Y0, hY0⟩ : ∃ W, wr.alloc (.cells #[.slice b M d] 25) = W := ⟨_, rfl⟩
  rw [hY0] at bw hzw
  rw [hyb] at hzw
  have RD : Hid (RdS V W1 Y0 la len cap bd yb b M d us) := ⟨GW.out.by_below bw, gb_tr GR.out (gb_of_below bw _), hzw, hRw.below bw, by have := GW.out.lt; omega⟩
  obtain ⟨E, hE⟩ : ∃ E, chkP us = E := ⟨_, rfl⟩
  have HEE := Lib.hid hE
  have TE : (E != E) = false := by rw [bne_self_eq_false]
  have RDD : Hid (RdS V W1 Y0.drew la len cap bd yb b M d us) := RD.out.draw RD.out.game.drew (gb_drew (gb_refl Y0 _))
  clear hE bw hzw hRw hRv hKv hcv
  go_wp2_with fail
  (try rw [hY0])
  (try rw [hyb])
  clear hY0 hyb cw
  refine inv.wp_region_inv (fun _ W => RdS V W1 W la len cap bd yb b M d us) (DC2 b M d E) (by kernel_rfl) (by kernel_rfl) RDD.out ?steps ?rest
  case steps =>
    refine ⟨fun vs W done hS hD hno K hK => ?_, fun vs W done hS hD hno K hK => ?_, fun vs W done hS hD hno K hK => ?_, fun vs W done hS hD hno K hK => ?_, fun vs W done hS hD hno K hK => ?_, trivial⟩
    · simp only [inv.dstsL, inv.putT, Nat.reduceAdd, List.set_cons_zero, List.set_cons_succ]
      have c0 := hS.cell
      go_simp
      exact hK _ _ _ (by simp only [inv.dstsL, inv.putT, Nat.reduceAdd, List.set_cons_zero, List.set_cons_succ]; (try rfl)) (hS) (rfl) (fun _ _ h => h)
    · simp only [inv.dstsL, inv.putT, Nat.reduceAdd, List.set_cons_zero, List.set_cons_succ]
      have h0 : (vs 0) = .agg #[.slice b M d] := hD 0 (by kernel_rfl)
      rw [h0]
      go_simp
      refine (check_is b M d us E W hS.reg (TAB.out W hS.game.below).ct.tabs.cls KUS.out HEE.out).mono ?_; rintro e W2 ⟨rfl, b2⟩
      exact hK _ _ _ (by simp only [inv.dstsL, inv.putT, Nat.reduceAdd, List.set_cons_zero, List.set_cons_succ, h0]; (try rfl)) (hS.step b2) (rfl) (DC2.kept)
    · simp only [inv.dstsL, inv.putT, Nat.reduceAdd, List.set_cons_zero, List.set_cons_succ]
      have c0 := hS.cell
      go_simp
      exact hK _ _ _ (by simp only [inv.dstsL, inv.putT, Nat.reduceAdd, List.set_cons_zero, List.set_cons_succ]; (try rfl)) (hS) (rfl) (fun _ _ h => h)
    · simp only [inv.dstsL, inv.putT, Nat.reduceAdd, List.set_cons_zero, List.set_cons_succ]
      have h2 : (vs 2) = .agg #[.slice b M d] := hD 2 (by kernel_rfl)
      rw [h2]
      go_simp
      refine (rcheck_is b M d us E W hS.reg HEE.out).mono ?_; rintro e W2 ⟨rfl, b2⟩
      exact hK _ _ _ (by simp only [inv.dstsL, inv.putT, Nat.reduceAdd, List.set_cons_zero, List.set_cons_succ, h2]; (try rfl)) (hS.step b2) (rfl) (DC2.kept)
    · simp only [inv.dstsL, inv.putT, Nat.reduceAdd, List.set_cons_zero, List.set_cons_succ]
      have h1 : (vs 1) = .int .i64 E := hD 1 (by kernel_rfl)
      have h3 : (vs 3) = .int .i64 E := hD 3 (by kernel_rfl)
      rw [h1, h3]
      go_simp
      exact hK _ _ _ (by simp only [inv.dstsL, inv.putT, Nat.reduceAdd, List.set_cons_zero, List.set_cons_succ, h1, h3]; (try rfl)) (hS) (rfl) (fun _ _ h => h)
  case rest =>
    intro vs W done hdone hS hD
    have h4 : vs 4 = .bool false := hD 4 (by decide)
    simp only [inv.dstsL, inv.putT, Nat.reduceAdd, List.set_cons_zero, List.set_cons_succ]
    rw [h4]
    have RS := Lib.hid hS
    generalize vs 0 = w0, vs 1 = w1, vs 2 = w2, vs 3 = w3 at *
    clear hD hdone hS h4 RDD RD TE
    have d8 := (PX.out W RS.out.game.below).1
    dsimp only at d8
    go_wp2_with fail
    clear d8
    have bn := below_box W (.cells #[.string s, .string ⟨#[80, 48, 49]⟩, .string ⟨#[80, 48, 50]⟩, .string nm] 9)
    have hzn := heap_alloc_new W (.cells #[.string s, .string ⟨#[80, 48, 49]⟩, .string ⟨#[80, 48, 50]⟩, .string nm] 9)
    obtain ⟨Vn, hVn⟩ : ∃ X, W.alloc (.cells #[.string s, .string ⟨#[80, 48, 49]⟩, .string ⟨#[80, 48, 50]⟩, .string nm] 9) = X := ⟨_, rfl⟩
    obtain ⟨nb, hnb⟩ : ∃ b, W.heap.size = b := ⟨_, rfl⟩
    rw [hVn] at bn hzn
    rw [hnb] at hzn
    have RN : Hid (∀ X, Below Vn.heap.size Vn X → RdS V W1 X la len cap bd yb b M d us) := fun X bX => (RS.out.step bn).step bX
    have NM : Hid (∀ i, i < 4 → ∃ x, ∀ X, Below Vn.heap.size Vn X → X.cell? ⟨nb, i, none⟩ = some (.string x)) := fun i hi => by
      have hnl := lt_of_block hzn
      rcases (show i = 0 ∨ i = 1 ∨ i = 2 ∨ i = 3 by omega) with rfl | rfl | rfl | rfl
      · exact ⟨_, fun X bX => by rw [bX.cell (p := ⟨nb, 0, none⟩) hnl]; exact (cell_atR hzn 0).1⟩
      · exact ⟨_, fun X bX => by rw [bX.cell (p := ⟨nb, 1, none⟩) hnl]; exact (cell_atR hzn 1).1⟩
      · exact ⟨_, fun X bX => by rw [bX.cell (p := ⟨nb, 2, none⟩) hnl]; exact (cell_atR hzn 2).1⟩
      · exact ⟨_, fun X bX => by rw [bX.cell (p := ⟨nb, 3, none⟩) hnl]; exact (cell_atR hzn 3).1⟩
    have BN0 : Hid (Below Vn.heap.size Vn Vn) := Below.refl _ _
    (try rw [hVn])
    (try rw [hnb])
    clear hVn hnb bn hzn RS
    go_loopw [142] (fun iv wq => ∃ j : Nat, j ≤ 4 ∧ iv = .int .i64 j ∧ Hid (Below Vn.heap.size Vn wq)) (fun iv _ => 4 - (intOf iv).toNat)
    case atStart => exact ⟨0, by decide, rfl, BN0⟩
    case round =>
      clear BN0
      obtain ⟨j, hj4, rfl, BQ⟩ := hrel
      by_cases hjl : j < 4
      ·
        have hjj : (j : Int) < 4 := by omega
        obtain ⟨nmx, hnx⟩ := NM.out j hjl
        have n0 := hnx wr BQ.out
        have y0 := (RN.out wr BQ.out).cell
        obtain ⟨⟨R1, E1⟩, hR⟩ : ∃ R, remP us nmx = R := ⟨_, rfl⟩
        obtain ⟨F, hF⟩ : ∃ F, fndP us nmx = F := ⟨_, rfl⟩
        obtain ⟨C, hC⟩ : ∃ C, canP us nmx k t = C := ⟨_, rfl⟩
        have HF := Lib.hid hF
        have HC := Lib.hid hC
        have RM := Lib.hid (fun X (bX : Below Vn.heap.size Vn X) => remove_is b M d us nmx X (RN.out X bX).reg (TAB.out X (RN.out X bX).game.below).ct.tabs.cls KUS.out)
        have RRM := Lib.hid (fun X (bX : Below Vn.heap.size Vn X) => rremove_is b M d us nmx X (RN.out X bX).reg)
        rw [hR] at RM RRM
        dsimp only at RM RRM
        clear hF hC hR hnx
        go_wp2_with fail
        clear n0 y0
        refine (RM.out wr BQ.out).mono ?_; rintro e q1 ⟨a5, N5, c5, rfl, r5, b5⟩
        have B5 := Lib.hid (BQ.out.trans (b5.mono BQ.out.size))
        obtain ⟨q2, hq2⟩ : ∃ X, (q1.alloc (.cells #[.slice none 0 0] 25)).setCell ⟨q1.heap.size, 0, none⟩ (.slice a5 N5 c5) = X := ⟨_, rfl⟩
        obtain ⟨o5, bb5, -, c0, z0⟩ := boxed q1 a5 N5 c5 q2 hq2
        have X5 : Hid (Bx q2 q1.heap.size a5 N5 c5 R1) := ⟨o5, r5.below bb5⟩
        have B6 := Lib.hid (B5.out.trans (bb5.mono B5.out.size))
        obtain ⟨g5, hg5⟩ : ∃ b, q1.heap.size = b := ⟨_, rfl⟩
        rw [hg5] at X5 hq2 c0 z0
        clear o5 bb5 r5 b5 B5
        have y0 := (RN.out q2 B6.out).cell
        go_wp2_with fail
        first | rw [hq2] | skip
        clear hq2 c0 z0 hg5 y0
        refine (RRM.out q2 B6.out).mono ?_; rintro e q3 ⟨a6, N6, c6, rfl, r6, b6⟩
        have B7 := Lib.hid (B6.out.trans (b6.mono B6.out.size))
        have X6 := Lib.hid (X5.out.below b6)
        obtain ⟨Z, hZ⟩ : ∃ X, (q3.alloc (.cells #[.slice none 0 0] 25)).setCell ⟨q3.heap.size, 0, none⟩ (.slice a6 N6 c6) = X := ⟨_, rfl⟩
        obtain ⟨o6, bb6, -, c0, z0⟩ := boxed q3 a6 N6 c6 Z hZ
        have Y6 : Hid (Bx Z q3.heap.size a6 N6 c6 R1) := ⟨o6, r6.below bb6⟩
        have Y5 := Lib.hid (X6.out.below bb6)
        have B8 := Lib.hid (B7.out.trans (bb6.mono B7.out.size))
        obtain ⟨g6, hg6⟩ : ∃ b, q3.heap.size = b := ⟨_, rfl⟩
        rw [hg6] at Y6 hZ c0 z0
        have FR : Hid (∀ W, Below Z.heap.size Z W → RdS V W1 W la len cap bd yb b M d us ∧ Bx W g5 a5 N5 c5 R1 ∧ Bx W g6 a6 N6 c6 R1) := fun W bW => ⟨(RN.out Z B8.out).step bW, Y5.out.below bW, Y6.out.below bW⟩
        have HS27 : Hid (Below Z.heap.size Z Z.drew) := (Below.refl _ _).drew
        clear o6 bb6 r6 b6 B6 B7 X5 X6 Y5 Y6 RM RRM
        go_wp2_with fail
        first | rw [hZ] | skip
        clear hZ c0 z0 hg6
        (try go_wp2)
        have y0 := (FR.out Z (Below.refl _ _)).1.cell
        have y5 := (FR.out Z (Below.refl _ _)).2.1.one.1
        have y6 := (FR.out Z (Below.refl _ _)).2.2.one.1
        have bz0 := Below.refl Z.heap.size Z
        have TF : (F != F) = false := by rw [bne_self_eq_false]
        have TC : (C != C) = false := by simp
        have TE1 : (E1 != E1) = false := by rw [bne_self_eq_false]
        clear HS27
        go_region_held3 (fun w' => w'.cell? ⟨yb, 0, none⟩ = some (.slice b M d) ∧ w'.cell? ⟨g5, 0, none⟩ = some (.slice a5 N5 c5) ∧ w'.cell? ⟨g6, 0, none⟩ = some (.slice a6 N6 c6) ∧ Below Z.heap.size Z w')
          (first | exact tri_drew ⟨y0, y5, y6, bz0⟩ | exact ⟨y0, y5, y6, bz0⟩ | exact tri_drew (by assumption) | exact tri_below (by assumption) (by assumption) | exact tri_drew (tri_below (by assumption) (by assumption)) | go_keep)
          (first
            | (go_at_call 14; refine (rsame_is a5 a6 N5 c5 N6 c6 R1 R1 true _ (FR.out _ (tri_b (by assumption))).2.1.reg (FR.out _ (tri_b (by assumption))).2.2.reg ⟨fun _ => rfl, fun _ => rfl⟩).mono ?_; rintro e w7 ⟨rfl, b7⟩)
            | (go_at_call 15; refine (find_is b M d us nmx F _ (FR.out _ (tri_b (by assumption))).1.reg (TAB.out _ (FR.out _ (tri_b (by assumption))).1.game.below).ct.tabs.cls KUS.out HF.out).mono ?_; rintro e w7 ⟨rfl, b7⟩)
            | (go_at_call 16; refine (rfind_is b M d us nmx F _ (FR.out _ (tri_b (by assumption))).1.reg HF.out).mono ?_; rintro e w7 ⟨rfl, b7⟩)
            | (go_at_call 17; refine (can_is b M d us nmx k t C _ (FR.out _ (tri_b (by assumption))).1.reg (TAB.out _ (FR.out _ (tri_b (by assumption))).1.game.below).ct.tabs.cls KUS.out HC.out).mono ?_; rintro e w7 ⟨rfl, b7⟩)
            | (go_at_call 18; refine (rcan_is b M d us nmx k t C _ (FR.out _ (tri_b (by assumption))).1.reg HC.out).mono ?_; rintro e w7 ⟨rfl, b7⟩))
        rename_i hS
        have B9 := Lib.hid (B8.out.trans ((tri_b hS).mono B8.out.size))
        clear hS y0 y5 y6 bz0 TF TC TE1 FR HF HC b7
        go_wp2
        go_roundw
        case rel => exact ⟨j + 1, by omega, by go_num, B9⟩
        case measure => simp [intOf]; omega
      · obtain rfl : j = 4 := by omega
        have RS4 := Lib.hid (RN.out wr BQ.out)
        clear RN NM BQ
        obtain ⟨p0, p1, p2, p3, p4, -⟩ := PX.out wr RS4.out.game.below
        dsimp only at p0 p1 p2 p3 p4
        have hxb : x + 1 ≠ bd := by
          have := (PX.out W1 (Below.refl _ _)).2.2.2.2.2
          have := HB.out
          omega
        have gm0 := RS4.out.game
        have gr0 := gb_refl wr (some bd)
        go_wp2_with fail
        go_region_held3 (fun w' => w'.cell? ⟨x + 1, 0, none⟩ = some (.string nm) ∧ w'.cell? ⟨x + 1, 1, none⟩ = some (.int .i64 co) ∧ w'.cell? ⟨x + 1, 2, none⟩ = some (.int .i64 sk) ∧ w'.cell? ⟨x + 1, 3, none⟩ = some (.int .i64 fr) ∧ w'.cell? ⟨x + 1, 4, none⟩ = some (.int .i64 un) ∧ Game W1 w' bd la len cap ∧ wr.grownBy w' (some bd))
          (first | exact pen_drew ⟨p0, p1, p2, p3, p4, gm0, gr0⟩ | exact ⟨p0, p1, p2, p3, p4, gm0, gr0⟩ | exact pen_drew (by assumption) | exact pen_keep (by assumption) hxb (by assumption) (by assumption) | exact pen_alloc (by assumption) hxb _ | exact pen_alloc (pen_keep (by assumption) hxb (by assumption) (by assumption)) hxb _ | exact pen_drew (pen_keep (by assumption) hxb (by assumption) (by assumption)) | exact pen_drew (pen_alloc (by assumption) hxb _) | go_keep)
          (first
            | (go_at_call 19; refine (person_is (pen_game (by assumption)).1 HR0.out).mono ?_; rintro e w7 ⟨⟨qn, qc, qk, qf, qu⟩, rfl, hq0, hqz, gm7, gb7⟩; dsimp only [pnV] at hqz ⊢))
        rename_i hS
        have hpb0 := lt_of_block (heap_alloc_new w7 (.cells #[.string nm, .int .i64 co, .int .i64 sk, .int .i64 fr, .int .i64 un, .string qn, .int .i64 qc, .int .i64 qk, .int .i64 qf, .int .i64 qu] 27))
        have hz3 := heap_alloc_new w7 (.cells #[.string nm, .int .i64 co, .int .i64 sk, .int .i64 fr, .int .i64 un, .string qn, .int .i64 qc, .int .i64 qk, .int .i64 qf, .int .i64 qu] 27)
        obtain ⟨V3, hV3⟩ : ∃ W, w7.alloc (.cells #[.string nm, .int .i64 co, .int .i64 sk, .int .i64 fr, .int .i64 un, .string qn, .int .i64 qc, .int .i64 qk, .int .i64 qf, .int .i64 qu] 27) = W := ⟨_, rfl⟩
        obtain ⟨pb, hpb⟩ : ∃ b, w7.heap.size = b := ⟨_, rfl⟩
        rw [hV3] at hz3 hS
        rw [hpb] at hz3
        have RN3 : Hid (∀ X, Below V3.heap.size V3 X → RdS V W1 X la len cap bd yb b M d us) := fun X bX => (RS4.out.draw hS.2.2.2.2.2.1 hS.2.2.2.2.2.2).step bX
        have PE : Hid (∀ i, i < 2 → ∃ q : Pn, q.nm.size ≤ maxLen ∧ I64 q.sk ∧ ∀ X, Below V3.heap.size V3 X → X.cell? ⟨pb, i * 5, none⟩ = some (.string q.nm) ∧ X.cell? ⟨pb, i * 5 + 1, none⟩ = some (.int .i64 q.co) ∧ X.cell? ⟨pb, i * 5 + 2, none⟩ = some (.int .i64 q.sk) ∧ X.cell? ⟨pb, i * 5 + 3, none⟩ = some (.int .i64 q.fr) ∧ X.cell? ⟨pb, i * 5 + 4, none⟩ = some (.int .i64 q.un)) := fun i hi => by
          have hnl := lt_of_block hz3
          rcases (show i = 0 ∨ i = 1 by omega) with rfl | rfl
          · refine ⟨⟨nm, co, sk, fr, un⟩, by unfold maxLen; exact hpn, hpk, fun X bX => ⟨?_, ?_, ?_, ?_, ?_⟩⟩
            · exact (bX.cell (p := ⟨pb, 0, none⟩) hnl).trans (cell_atR hz3 0).1
            · exact (bX.cell (p := ⟨pb, 1, none⟩) hnl).trans (cell_atR hz3 1).1
            · exact (bX.cell (p := ⟨pb, 2, none⟩) hnl).trans (cell_atR hz3 2).1
            · exact (bX.cell (p := ⟨pb, 3, none⟩) hnl).trans (cell_atR hz3 3).1
            · exact (bX.cell (p := ⟨pb, 4, none⟩) hnl).trans (cell_atR hz3 4).1
          · refine ⟨⟨qn, qc, qk, qf, qu⟩, hqz, I64.of_ok hq0, fun X bX => ⟨?_, ?_, ?_, ?_, ?_⟩⟩
            · exact (bX.cell (p := ⟨pb, 5, none⟩) hnl).trans (cell_atR hz3 5).1
            · exact (bX.cell (p := ⟨pb, 6, none⟩) hnl).trans (cell_atR hz3 6).1
            · exact (bX.cell (p := ⟨pb, 7, none⟩) hnl).trans (cell_atR hz3 7).1
            · exact (bX.cell (p := ⟨pb, 8, none⟩) hnl).trans (cell_atR hz3 8).1
            · exact (bX.cell (p := ⟨pb, 9, none⟩) hnl).trans (cell_atR hz3 9).1
        have BN3 : Hid (Below V3.heap.size V3 V3) := Below.refl _ _
        rw [hV3]
        (try rw [hpb])
        clear hpb0 hz3 hV3 hpb hS gm7 gb7 hq0 hqz p0 p1 p2 p3 p4 gm0 gr0 hxb RS4
        go_wp2
        go_loopw [195] (fun iv wq => ∃ j : Nat, j ≤ 2 ∧ iv = .int .i64 j ∧ Hid (Below V3.heap.size V3 wq)) (fun iv _ => 2 - (intOf iv).toNat)
        case atStart => exact ⟨0, by decide, rfl, BN3⟩
        case round =>
          clear BN3
          obtain ⟨j, hj2, rfl, BQ⟩ := hrel
          by_cases hjl : j < 2
          ·
            have hjj : (j : Int) < 2 := by omega
            obtain ⟨⟨n5, c5x, k5, f5, u5⟩, hs5, hk5, hc5⟩ := PE.out j hjl
            obtain ⟨e0, e1, e2, e3, e4⟩ := hc5 wr BQ.out
            dsimp only at e0 e1 e2 e3 e4 hs5 hk5
            have bA := below_box wr (.cells #[.string n5, .int .i64 c5x, .int .i64 k5, .int .i64 f5, .int .i64 u5] 27)
            have BA := Lib.hid (BQ.out.trans (bA.mono BQ.out.size))
            have PA := Lib.hid (PnAt.new wr ⟨n5, c5x, k5, f5, u5⟩ 27)
            obtain ⟨⟨R5, E5⟩, hR⟩ : ∃ R, addP us ⟨n5, c5x, k5, f5, u5⟩ = R := ⟨_, rfl⟩
            have AD := Lib.hid (fun X (bX : Below V3.heap.size V3 X) => add_is b M d us ⟨n5, c5x, k5, f5, u5⟩ X (RN3.out X bX).reg (TAB.out X (RN3.out X bX).game.below).ct.tabs.cls KUS.out hs5 hk5)
            have RAD := Lib.hid (fun X (bX : Below V3.heap.size V3 X) => radd_is b M d us ⟨n5, c5x, k5, f5, u5⟩ X (RN3.out X bX).reg hs5)
            rw [hR] at AD RAD
            unfold pnV at AD RAD
            dsimp only at AD RAD
            have y0 := (RN3.out _ BA.out).cell
            obtain ⟨q0, q1, q2, q3, q4, -⟩ := PA.out
            dsimp only at q0 q1 q2 q3 q4
            clear hR bA hs5 hk5 hc5 PE
            go_wp2_with fail
            clear y0 e0 e1 e2 e3 e4 q0 q1 q2 q3 q4
            refine (AD.out _ BA.out).mono ?_; rintro e w5 ⟨a5, N5, c5, rfl, r5, b5⟩
            have B5 := Lib.hid (BA.out.trans (b5.mono BA.out.size))
            have P5 := Lib.hid (PA.out.below b5 PA.out.2.2.2.2.2)
            obtain ⟨ab, hab⟩ : ∃ b, wr.heap.size = b := ⟨_, rfl⟩
            rw [hab] at P5
            (try rw [hab])
            obtain ⟨w6, hq2⟩ : ∃ X, (w5.alloc (.cells #[.slice none 0 0] 25)).setCell ⟨w5.heap.size, 0, none⟩ (.slice a5 N5 c5) = X := ⟨_, rfl⟩
            obtain ⟨o5, bb5, -, c0, z0⟩ := boxed w5 a5 N5 c5 w6 hq2
            have X5 : Hid (Bx w6 w5.heap.size a5 N5 c5 R5) := ⟨o5, r5.below bb5⟩
            have B6 := Lib.hid (B5.out.trans (bb5.mono B5.out.size))
            have P6 := Lib.hid (P5.out.below bb5 P5.out.2.2.2.2.2)
            obtain ⟨g5, hg5⟩ : ∃ b, w5.heap.size = b := ⟨_, rfl⟩
            rw [hg5] at X5 hq2 c0 z0
            clear o5 bb5 r5 b5 B5 P5 PA hab BA
            have y0 := (RN3.out w6 B6.out).cell
            obtain ⟨q0, q1, q2, q3, q4, -⟩ := P6.out
            dsimp only at q0 q1 q2 q3 q4
            go_wp2_with fail
            first | rw [hq2] | skip
            clear hq2 c0 z0 hg5 y0 q0 q1 q2 q3 q4
            refine (RAD.out w6 B6.out).mono ?_; rintro e w7 ⟨a6, N6, c6, rfl, r6, b6⟩
            have B7 := Lib.hid (B6.out.trans (b6.mono B6.out.size))
            have X6 := Lib.hid (X5.out.below b6)
            obtain ⟨Z, hZ⟩ : ∃ X, (w7.alloc (.cells #[.slice none 0 0] 25)).setCell ⟨w7.heap.size, 0, none⟩ (.slice a6 N6 c6) = X := ⟨_, rfl⟩
            obtain ⟨o6, bb6, -, c0, z0⟩ := boxed w7 a6 N6 c6 Z hZ
            have Y6 : Hid (Bx Z w7.heap.size a6 N6 c6 R5) := ⟨o6, r6.below bb6⟩
            have Y5 := Lib.hid (X6.out.below bb6)
            have B8 := Lib.hid (B7.out.trans (bb6.mono B7.out.size))
            obtain ⟨g6, hg6⟩ : ∃ b, w7.heap.size = b := ⟨_, rfl⟩
            rw [hg6] at Y6 hZ c0 z0
            have y5 := Y5.out.one.1
            have y6 := Y6.out.one.1
            have TE1 : (E5 != E5) = false := by rw [bne_self_eq_false]
            clear o6 bb6 r6 b6 B6 B7 X5 X6 P6 AD RAD
            go_wp2_with fail
            first | rw [hZ] | skip
            clear hZ c0 z0 hg6 y5 y6
            refine (rsame_is a5 a6 N5 c5 N6 c6 R5 R5 true Z Y5.out.reg Y6.out.reg ⟨fun _ => rfl, fun _ => rfl⟩).mono ?_; rintro e w8 ⟨rfl, b8⟩
            have B9 := Lib.hid (B8.out.trans (b8.mono B8.out.size))
            clear b8 B8 Y5 Y6
            go_wp2
            go_roundw
            case rel => exact ⟨j + 1, by omega, by go_num, B9⟩
            case measure => simp [intOf]; omega
          · obtain rfl : j = 2 := by omega
            have RS5 := Lib.hid (RN3.out wr BQ.out)
            clear RN3 BQ PE
            have y0 := RS5.out.cell
            go_wp2_with fail
            clear y0
            refine (print_is b M d us wr (TAB.out _ RS5.out.game.below) RS5.out.reg KUS.out).mono ?_; rintro e w8 ⟨rfl, b8⟩
            have RS6 := Lib.hid (RS5.out.step b8)
            clear b8 RS5
            have y0 := RS6.out.cell
            go_wp2_with fail
            clear y0
            refine (rprint_is b M d us w8 RS6.out.reg).mono ?_; rintro e w9 ⟨rfl, b9⟩
            have RS7 := Lib.hid (RS6.out.step b9)
            clear b9 RS6
            have TE2 : (chkP us != chkP us) = false := by rw [bne_self_eq_false]
            go_wp2
            go_roundw
            case rel => exact ⟨i + 1, by omega, by go_num, Lib.hid RS7.out.game, Lib.hid RS7.out.gr⟩
            case measure => simp [intOf]; omega
end Go.Proofs.YthdjpmiohfaphaaGreatDoor.reg
