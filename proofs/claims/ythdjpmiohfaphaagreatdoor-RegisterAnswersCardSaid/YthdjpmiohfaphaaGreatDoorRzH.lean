/- Joined texts (one file of a claim): RzE, RzF. Each one's own remark stands before it. -/
import Derived.Test.YthdjpmiohfaphaaGreatDoorRzA
import Derived.Test.YthdjpmiohfaphaaGreatDoorRzG

/- RegisterAnswers: what comes behind the loop over the registers. -/
namespace Go.Proofs.YthdjpmiohfaphaaGreatDoor.reg
open Go.RowKit lex aggs kit net deck strs cal

set_option maxRecDepth 100000 in
set_option maxHeartbeats 16000000 in
theorem part4 : part1.snd.snd.fst := by
  intro la len cap zs ra RN rc rps s k t w hsz _k0 _k1 _t0 _t1 x hx W1 TAB RAW OX HR0 RK BX nm co sk fr un hpn hpk PX h5 h6 i1_ w1 bd HB w2 a N c ps V1 rb z0 c0 hV1 hrb hrbd G1 RG1 RB1 OKP hN6 LN RH1 a2 c2 w3 OWN3 RG3 GR3 base ob hob wc u16 u47 u48 u49 u50 u51 u52 u53 u54 u55 u56 u57 u58 u59 u60 u61 u62 u63 u64 u65 u66 u67 u68 u69 u70 u71 u72 u73 u74 u75 u76 u77 u78 u79 u80 u81 u82 u83 u84 u85 u86 u87 u88 u89 u90 u91 u92 u93 u94 u95 u96 u97 u98 u99 u100 u101 u102 u103 u104 u105 u106 u107 u108 u109 u110 u111 u112 u113 u114 u115 u116 u117 u118 u119 u120 u121 u122 u123 u124 u125 i2_ i3_ i4_ i5_ i6_ i7_ i8_ i9_ i10_ i11_ i12_ i13_ i14_ i15_ i16_ i17_ i18_ i19_ i20_ i21_ i22_ i23_ i24_ i25_ i26_ i27_ i28_ i29_ i30_ i31_ i32_ i33_ i34_ i35_ i36_ i37_ i38_ i39_ i40_ i41_ i42_ i43_ i44_ i45_ i46_ i47_ i48_ i49_ i50_ i51_ i52_ i53_ i54_ i55_ i56_ i57_ i58_ i59_ i60_ i61_ i62_ i63_ i64_ i65_ i66_ i67_ i68_ i69_ i70_ i71_ i72_ i73_ i74_ i75_ i76_ i77_ i78_ i79_ i80_ i81_ i82_ i83_ i84_ i85_ i86_ i87_ i88_ i89_ i90_ i91_ i92_ i93_ i94_ i95_ i96_ i97_ i98_ i99_ i100_ i101_ i102_ i103_ i104_ i105_ i106_ u240 u241 u242 u243 u244 u245 u246 u247 u248 u249 u250 u251 u252 u253 u254 u255 u256 u257 u258 u259 u260 u261 u262 u263 u264 u265 u266 u267 u268 u269 u273 u274 u275 u276 u277 u278 u279 u280 u281 u282 u283 u284 u285 u286 u287 u288 u289 u290 u291 u292 u293 u294 u295 u296 u297 u298 u299 u300 u301 u302 u303 qs tx htz W6 i107_ i108_ V sb GV i109_ wr u12 u20 u22 u23 u24 u25 u26 u28 u29 u30 u31 u32 u33 u34 u35 u36 u129 u130 u131 u132 u133 u134 u135 u136 u137 u138 u139 u140 u141 u142 u143 u144 u145 u146 u147 u148 u149 u150 u151 u152 u153 u154 u155 u156 u157 u158 u159 u160 u161 u162 u163 u164 u165 u166 u167 u168 u169 u170 u171 u172 u173 u174 u175 u176 u177 u178 u179 u180 u181 u182 u183 u184 u185 u186 u187 u188 u189 u190 u191 u192 u193 u194 u195 u196 u197 u198 u199 u200 u201 u202 u203 u204 u205 u206 u207 u208 u209 u210 u211 u212 u213 u214 u215 u216 u217 u218 u219 u220 u221 u222 u223 u224 u225 u226 u227 u228 u229 u230 u231 u232 u233 u234 u235 u236 u237 u238 u239 GW GR hi3 hlt
  go_upto_if 243 with (fail)
  go_cut [37, 38, 244, 245, 246, 247, 248, 249, 250, 251, 252, 253, 254, 255, 256, 257, 258, 259, 260, 261, 262, 263] (fun s37 s38 s244 s245 s246 s247 s248 s249 s250 s251 s252 s253 s254 s255 s256 s257 s258 s259 s260 s261 s262 s263 wx => ∃ z : ByteArray, s37 = .string z ∧ z.size ≤ 5000 ∧ Game W1 wx bd la len cap)
  case first =>
    by_cases ht0 : 0 < tx.size
    · have T0 : decide ((0 : Int) < (tx.size : Int)) = true := decide_eq_true (by omega)
      go_wp2_with fail
      refine (GW.out.next HR0.out (tx.size : Int) (by omega)).mono ?_; rintro e W4 ⟨c, rfl, c0, c1, gm, gb⟩
      rw [show max (tx.size : Int) 1 = (tx.size : Int) from by omega] at c1
      obtain ⟨c, rfl⟩ : ∃ j : Nat, c = j := ⟨c.toNat, by omega⟩
      have hc : c < tx.size := by omega
      have H46 : Hid (Game W1 W4.drew bd la len cap) := gm.drew
      clear gm gb c0 c1 T0 ht0
      go_wp2_with fail
      (try go_wp2)
      refine inv.wp_region_inv (fun _ W => Game W1 W bd la len cap) (DG46 tx bd c) (by kernel_rfl) (by kernel_rfl) H46.out ?steps7 ?rest7
      case steps7 =>
        refine ⟨fun vs W done hS hD hno K hK => ?_, fun vs W done hS hD hno K hK => ?_, fun vs W done hS hD hno K hK => ?_, fun vs W done hS hD hno K hK => ?_, fun vs W done hS hD hno K hK => ?_, fun vs W done hS hD hno K hK => ?_, fun vs W done hS hD hno K hK => ?_, fun vs W done hS hD hno K hK => ?_, fun vs W done hS hD hno K hK => ?_, fun vs W done hS hD hno K hK => ?_, fun vs W done hS hD hno K hK => ?_, fun vs W done hS hD hno K hK => ?_, fun vs W done hS hD hno K hK => ?_, fun vs W done hS hD hno K hK => ?_, fun vs W done hS hD hno K hK => ?_, fun vs W done hS hD hno K hK => ?_, fun vs W done hS hD hno K hK => ?_, trivial⟩
        · simp only [inv.dstsL, inv.putT, Nat.reduceAdd, List.set_cons_zero, List.set_cons_succ]
          go_simp
          exact hK _ _ _ (by simp only [inv.dstsL, inv.putT, Nat.reduceAdd, List.set_cons_zero, List.set_cons_succ]; (try rfl)) (hS) (rfl) (fun _ _ h => h)
        · simp only [inv.dstsL, inv.putT, Nat.reduceAdd, List.set_cons_zero, List.set_cons_succ]
          go_simp
          exact hK _ _ _ (by simp only [inv.dstsL, inv.putT, Nat.reduceAdd, List.set_cons_zero, List.set_cons_succ]; (try rfl)) (hS) (rfl) (fun _ _ h => h)
        · simp only [inv.dstsL, inv.putT, Nat.reduceAdd, List.set_cons_zero, List.set_cons_succ]
          have h0 : (vs 0) = .string tx := hD 0 (by kernel_rfl)
          have h1 : (vs 1) = .int .i64 (c : Int) := hD 1 (by kernel_rfl)
          have hcl : c ≤ tx.size := by omega
          rw [h0, h1]
          go_simp
          exact hK _ _ _ (by simp only [inv.dstsL, inv.putT, Nat.reduceAdd, List.set_cons_zero, List.set_cons_succ, h0, h1]; (try rfl)) (hS) (⟨tx.extract 0 c, rfl, (by rw [ByteArray.size_extract]; omega)⟩) (fun _ _ h => h)
        · simp only [inv.dstsL, inv.putT, Nat.reduceAdd, List.set_cons_zero, List.set_cons_succ]
          have hne : W.heap.size ≠ bd := Nat.ne_of_gt hS.lt
          have bxx := below_box W (.cells #[.string ⟨#[]⟩, .string ⟨#[32]⟩, .string ⟨#[10]⟩, .string ⟨#[115]⟩, .string ⟨#[48]⟩] 9)
          have hnew := heap_alloc_new W (.cells #[.string ⟨#[]⟩, .string ⟨#[32]⟩, .string ⟨#[10]⟩, .string ⟨#[115]⟩, .string ⟨#[48]⟩] 9)
          go_simp
          exact hK _ _ _ (by simp only [inv.dstsL, inv.putT, Nat.reduceAdd, List.set_cons_zero, List.set_cons_succ]; (try rfl)) (hS.by_below bxx) (⟨_, rfl, hnew, hne⟩) (DG46.kept (gb_of_below bxx _))
        · simp only [inv.dstsL, inv.putT, Nat.reduceAdd, List.set_cons_zero, List.set_cons_succ]
          go_simp
          exact hK _ _ _ (by simp only [inv.dstsL, inv.putT, Nat.reduceAdd, List.set_cons_zero, List.set_cons_succ]; (try rfl)) (hS) (rfl) (fun _ _ h => h)
        · simp only [inv.dstsL, inv.putT, Nat.reduceAdd, List.set_cons_zero, List.set_cons_succ]
          have h4 : (vs 4) = .pointer (some ⟨bd, 0, none⟩) := hD 4 (by kernel_rfl)
          rw [h4]
          go_simp
          refine (hS.next HR0.out 5 (by decide)).mono ?_; rintro e W2 ⟨i, rfl, i0, i1, gm, gb⟩
          rw [show max (5 : Int) 1 = 5 from rfl] at i1
          obtain ⟨i, rfl⟩ : ∃ j : Nat, i = j := ⟨i.toNat, by omega⟩
          exact hK _ _ _ (by simp only [inv.dstsL, inv.putT, Nat.reduceAdd, List.set_cons_zero, List.set_cons_succ, h4]; (try rfl)) (gm) (⟨i, rfl, by omega⟩) (DG46.kept gb)
        · simp only [inv.dstsL, inv.putT, Nat.reduceAdd, List.set_cons_zero, List.set_cons_succ]
          have h3 : ∃ B, (vs 3) = .slice (some ⟨B, 0, none⟩) 5 5 ∧ W.heap[B]? = some (.cells #[.string ⟨#[]⟩, .string ⟨#[32]⟩, .string ⟨#[10]⟩, .string ⟨#[115]⟩, .string ⟨#[48]⟩] 9 (0, 0)) ∧ B ≠ bd := hD 3 (by kernel_rfl)
          have h5 : ∃ i : Nat, (vs 5) = .int .i64 (i : Int) ∧ i < 5 := hD 5 (by kernel_rfl)
          obtain ⟨B, h3, hb, hne⟩ := h3
          obtain ⟨i, h5, i5⟩ := h5
          have hii : (i : Int) < 5 := by omega
          rw [h3, h5]
          go_simp
          exact hK _ _ _ (by simp only [inv.dstsL, inv.putT, Nat.reduceAdd, List.set_cons_zero, List.set_cons_succ, h3, h5]; (try rfl)) (hS) (⟨B, i, i5, (by first | rfl | simp), hb, hne⟩) (fun _ _ h => h)
        · simp only [inv.dstsL, inv.putT, Nat.reduceAdd, List.set_cons_zero, List.set_cons_succ]
          have h6 : ∃ B i, i < 5 ∧ (vs 6) = .pointer (some ⟨B, i, none⟩) ∧ W.heap[B]? = some (.cells #[.string ⟨#[]⟩, .string ⟨#[32]⟩, .string ⟨#[10]⟩, .string ⟨#[115]⟩, .string ⟨#[48]⟩] 9 (0, 0)) ∧ B ≠ bd := hD 6 (by kernel_rfl)
          obtain ⟨B, i, i5, h6, hb, hne⟩ := h6
          rw [h6]
          rcases (show i = 0 ∨ i = 1 ∨ i = 2 ∨ i = 3 ∨ i = 4 by omega) with rfl | rfl | rfl | rfl | rfl
          · have c0 := (cell_atR hb 0).1
            go_simp
            exact hK _ _ _ (by simp only [inv.dstsL, inv.putT, Nat.reduceAdd, List.set_cons_zero, List.set_cons_succ, h6]; (try rfl)) (hS) (⟨_, rfl, by decide⟩) (fun _ _ h => h)
          · have c0 := (cell_atR hb 1).1
            go_simp
            exact hK _ _ _ (by simp only [inv.dstsL, inv.putT, Nat.reduceAdd, List.set_cons_zero, List.set_cons_succ, h6]; (try rfl)) (hS) (⟨_, rfl, by decide⟩) (fun _ _ h => h)
          · have c0 := (cell_atR hb 2).1
            go_simp
            exact hK _ _ _ (by simp only [inv.dstsL, inv.putT, Nat.reduceAdd, List.set_cons_zero, List.set_cons_succ, h6]; (try rfl)) (hS) (⟨_, rfl, by decide⟩) (fun _ _ h => h)
          · have c0 := (cell_atR hb 3).1
            go_simp
            exact hK _ _ _ (by simp only [inv.dstsL, inv.putT, Nat.reduceAdd, List.set_cons_zero, List.set_cons_succ, h6]; (try rfl)) (hS) (⟨_, rfl, by decide⟩) (fun _ _ h => h)
          · have c0 := (cell_atR hb 4).1
            go_simp
            exact hK _ _ _ (by simp only [inv.dstsL, inv.putT, Nat.reduceAdd, List.set_cons_zero, List.set_cons_succ, h6]; (try rfl)) (hS) (⟨_, rfl, by decide⟩) (fun _ _ h => h)
        · simp only [inv.dstsL, inv.putT, Nat.reduceAdd, List.set_cons_zero, List.set_cons_succ]
          have h2 : ∃ z : ByteArray, (vs 2) = .string z ∧ z.size ≤ 2466 := hD 2 (by kernel_rfl)
          have h7 : ∃ z : ByteArray, (vs 7) = .string z ∧ z.size ≤ 1 := hD 7 (by kernel_rfl)
          obtain ⟨z2, h2, hz2⟩ := h2
          obtain ⟨z7, h7, hz7⟩ := h7
          have hov : ¬ 9223372036854775807 < z2.size + z7.size := by omega
          rw [h2, h7]
          go_simp
          exact hK _ _ _ (by simp only [inv.dstsL, inv.putT, Nat.reduceAdd, List.set_cons_zero, List.set_cons_succ, h2, h7]; (try rfl)) (hS) (⟨z2 ++ z7, rfl, (by rw [ByteArray.size_append]; omega)⟩) (fun _ _ h => h)
        · simp only [inv.dstsL, inv.putT, Nat.reduceAdd, List.set_cons_zero, List.set_cons_succ]
          go_simp
          exact hK _ _ _ (by simp only [inv.dstsL, inv.putT, Nat.reduceAdd, List.set_cons_zero, List.set_cons_succ]; (try rfl)) (hS) (rfl) (fun _ _ h => h)
        · simp only [inv.dstsL, inv.putT, Nat.reduceAdd, List.set_cons_zero, List.set_cons_succ]
          go_simp
          exact hK _ _ _ (by simp only [inv.dstsL, inv.putT, Nat.reduceAdd, List.set_cons_zero, List.set_cons_succ]; (try rfl)) (hS) (rfl) (fun _ _ h => h)
        · simp only [inv.dstsL, inv.putT, Nat.reduceAdd, List.set_cons_zero, List.set_cons_succ]
          go_simp
          exact hK _ _ _ (by simp only [inv.dstsL, inv.putT, Nat.reduceAdd, List.set_cons_zero, List.set_cons_succ]; (try rfl)) (hS) (rfl) (fun _ _ h => h)
        · simp only [inv.dstsL, inv.putT, Nat.reduceAdd, List.set_cons_zero, List.set_cons_succ]
          have h11 : (vs 11) = .pointer (some ⟨bd, 0, none⟩) := hD 11 (by kernel_rfl)
          rw [h11]
          go_simp
          refine (hS.next HR0.out 2 (by decide)).mono ?_; rintro e W2 ⟨i, rfl, i0, i1, gm, gb⟩
          rw [show max (2 : Int) 1 = 2 from rfl] at i1
          obtain ⟨i, rfl⟩ : ∃ j : Nat, i = j := ⟨i.toNat, by omega⟩
          exact hK _ _ _ (by simp only [inv.dstsL, inv.putT, Nat.reduceAdd, List.set_cons_zero, List.set_cons_succ, h11]; (try rfl)) (gm) (⟨i, rfl, by omega⟩) (DG46.kept gb)
        · simp only [inv.dstsL, inv.putT, Nat.reduceAdd, List.set_cons_zero, List.set_cons_succ]
          have h10 : (vs 10) = .int .i64 (c : Int) := hD 10 (by kernel_rfl)
          have h12 : ∃ i : Nat, (vs 12) = .int .i64 (i : Int) ∧ i < 2 := hD 12 (by kernel_rfl)
          obtain ⟨i, h12, i5⟩ := h12
          rw [h10, h12]
          have hw : IntKind.i64.wrap ((c : Int) + (i : Int)) = ((c + i : Nat) : Int) := by rw [IntKind.wrap_i64]; omega
          go_simp
          exact hK _ _ _ (by simp only [inv.dstsL, inv.putT, Nat.reduceAdd, List.set_cons_zero, List.set_cons_succ, h10, h12]; (try rfl)) (hS) (⟨c + i, rfl, by omega⟩) (fun _ _ h => h)
        · simp only [inv.dstsL, inv.putT, Nat.reduceAdd, List.set_cons_zero, List.set_cons_succ]
          have h9 : (vs 9) = .string tx := hD 9 (by kernel_rfl)
          have h13 : ∃ m : Nat, (vs 13) = .int .i64 (m : Int) ∧ m ≤ c + 1 := hD 13 (by kernel_rfl)
          obtain ⟨m, h13, i5⟩ := h13
          rw [h9, h13]
          have hm : m ≤ tx.size := by omega
          go_simp
          exact hK _ _ _ (by simp only [inv.dstsL, inv.putT, Nat.reduceAdd, List.set_cons_zero, List.set_cons_succ, h9, h13]; (try rfl)) (hS) (⟨tx.extract m tx.size, rfl, (by rw [ByteArray.size_extract]; omega)⟩) (fun _ _ h => h)
        · simp only [inv.dstsL, inv.putT, Nat.reduceAdd, List.set_cons_zero, List.set_cons_succ]
          have h8 : ∃ z : ByteArray, (vs 8) = .string z ∧ z.size ≤ 2467 := hD 8 (by kernel_rfl)
          have h14 : ∃ z : ByteArray, (vs 14) = .string z ∧ z.size ≤ 2466 := hD 14 (by kernel_rfl)
          obtain ⟨z8, h8, hz8⟩ := h8
          obtain ⟨z14, h14, hz14⟩ := h14
          have hov : ¬ 9223372036854775807 < z8.size + z14.size := by omega
          rw [h8, h14]
          go_simp
          exact hK _ _ _ (by simp only [inv.dstsL, inv.putT, Nat.reduceAdd, List.set_cons_zero, List.set_cons_succ, h8, h14]; (try rfl)) (hS) (⟨z8 ++ z14, rfl, (by rw [ByteArray.size_append]; omega)⟩) (fun _ _ h => h)
        · simp only [inv.dstsL, inv.putT, Nat.reduceAdd, List.set_cons_zero, List.set_cons_succ]
          have h15 : ∃ z : ByteArray, (vs 15) = .string z ∧ z.size ≤ 4933 := hD 15 (by kernel_rfl)
          obtain ⟨z15, h15, hz15⟩ := h15
          rw [h15]
          go_simp
          exact hK _ _ _ (by simp only [inv.dstsL, inv.putT, Nat.reduceAdd, List.set_cons_zero, List.set_cons_succ, h15]; (try rfl)) (hS) (⟨_, rfl, hz15⟩) (fun _ _ h => h)
      case rest7 =>
        intro vs W done hdone hS hD
        have h16 : ∃ z : ByteArray, vs 16 = .string z ∧ z.size ≤ 4933 := hD 16 (by decide)
        obtain ⟨z, h16, hz⟩ := h16
        simp only [inv.dstsL, inv.putT, Nat.reduceAdd, List.set_cons_zero, List.set_cons_succ]
        rw [h16]
        go_wp2
        go_meet
        case rel => exact ⟨z, rfl, by omega, hS⟩
    · have T0 : decide ((0 : Int) < (tx.size : Int)) = false := decide_eq_false (by omega)
      go_wp2_with fail
      go_meet
      case rel => exact ⟨tx, rfl, by omega, GW.out⟩
  case rest =>
    obtain ⟨z, rfl, hz, hG⟩ := hcut
    have hz4 := heap_alloc_new wc (.cells #[.string s, .string tx, .string z, .string (tx ++ tx)] 9)
    have b4 := below_box wc (.cells #[.string s, .string tx, .string z, .string (tx ++ tx)] 9)
    have TB := Lib.hid (hG.below.trans (b4.mono hG.below.size))
    go_wp2_with fail
    obtain ⟨V4, hV4⟩ : ∃ W, wc.alloc (.cells #[.string s, .string tx, .string z, .string (tx ++ tx)] 9) = W := ⟨_, rfl⟩
    obtain ⟨nb, hnb⟩ : ∃ b, wc.heap.size = b := ⟨_, rfl⟩
    rw [hV4] at hz4 TB
    rw [hnb] at hz4
    (try rw [hV4])
    (try rw [hnb])
    have FS : Hid (∀ i, i < 4 → ∃ y : ByteArray, y.size ≤ 10000 ∧ ∀ X, Below V4.heap.size V4 X → X.cell? ⟨nb, i, none⟩ = some (.string y)) := fun i hi => by
      have hnl := lt_of_block hz4
      rcases (show i = 0 ∨ i = 1 ∨ i = 2 ∨ i = 3 by omega) with rfl | rfl | rfl | rfl
      · exact ⟨s, by omega, fun X bX => (bX.cell (p := ⟨nb, 0, none⟩) hnl).trans (cell_atR hz4 0).1⟩
      · exact ⟨tx, by omega, fun X bX => (bX.cell (p := ⟨nb, 1, none⟩) hnl).trans (cell_atR hz4 1).1⟩
      · exact ⟨z, by omega, fun X bX => (bX.cell (p := ⟨nb, 2, none⟩) hnl).trans (cell_atR hz4 2).1⟩
      · exact ⟨tx ++ tx, by rw [ByteArray.size_append]; omega, fun X bX => (bX.cell (p := ⟨nb, 3, none⟩) hnl).trans (cell_atR hz4 3).1⟩
    have BN4 : Hid (Below V4.heap.size V4 V4) := Below.refl _ _
    have TT : Hid (∀ X, Below V4.heap.size V4 X → Below W1.heap.size W1 X) := fun X bX => TB.out.trans (bX.mono TB.out.size)
    clear hz4 b4 TB hV4 hnb hG GW GR hz htz
    go_loopw [272] (fun iv wq => ∃ j : Nat, j ≤ 4 ∧ iv = .int .i64 j ∧ Hid (Below V4.heap.size V4 wq)) (fun iv _ => 4 - (intOf iv).toNat)
    case atStart => exact ⟨0, by decide, rfl, BN4⟩
    case round =>
      clear BN4
      obtain ⟨j, hj4, rfl, BQ⟩ := hrel
      by_cases hjl : j < 4
      ·
        have hjj : (j : Int) < 4 := by omega
        obtain ⟨y, hy, hcy⟩ := FS.out j hjl
        obtain ⟨l, rfl⟩ : ∃ l, y = bs l := ⟨y.data.toList, (bs_of y).symm⟩
        rw [bs_size] at hy
        have e0 := hcy wr BQ.out
        obtain ⟨⟨R5, m5, E5⟩, hP⟩ : ∃ R, parseP l = R := ⟨_, rfl⟩
        have PS := Lib.hid (fun X (bX : Below V4.heap.size V4 X) => parse_is l X (TAB.out _ (TT.out X bX)) (by omega))
        have RPS := Lib.hid (fun X => rparse_is l X (by omega))
        unfold ParseP at PS RPS
        rw [hP] at PS RPS
        dsimp only at PS RPS
        clear hP hcy hy
        go_wp2_with fail
        clear e0
        refine (PS.out wr BQ.out).mono ?_; rintro e w5 ⟨a5, N5, c5, rfl, r5, b5⟩
        have B5 := Lib.hid (BQ.out.trans (b5.mono BQ.out.size))
        obtain ⟨w6, hq2⟩ : ∃ X, (w5.alloc (.cells #[.slice none 0 0] 25)).setCell ⟨w5.heap.size, 0, none⟩ (.slice a5 N5 c5) = X := ⟨_, rfl⟩
        obtain ⟨o5, bb5, -, c0, z0⟩ := boxed w5 a5 N5 c5 w6 hq2
        have X5 : Hid (Bx w6 w5.heap.size a5 N5 c5 R5) := ⟨o5, r5.below bb5⟩
        have B6 := Lib.hid (B5.out.trans (bb5.mono B5.out.size))
        obtain ⟨g5, hg5⟩ : ∃ b, w5.heap.size = b := ⟨_, rfl⟩
        rw [hg5] at X5 hq2 c0 z0
        clear o5 bb5 r5 b5 B5
        go_wp2_with fail
        first | rw [hq2] | skip
        clear hq2 c0 z0 hg5
        refine (RPS.out w6).mono ?_; rintro e w7 ⟨a6, N6, c6, rfl, r6, b6⟩
        have B7 := Lib.hid (B6.out.trans (b6.mono B6.out.size))
        have X6 := Lib.hid (X5.out.below b6)
        obtain ⟨Z, hZ⟩ : ∃ X, (w7.alloc (.cells #[.slice none 0 0] 25)).setCell ⟨w7.heap.size, 0, none⟩ (.slice a6 N6 c6) = X := ⟨_, rfl⟩
        obtain ⟨o6, bb6, -, c0, z0⟩ := boxed w7 a6 N6 c6 Z hZ
        have Y6 : Hid (Bx Z w7.heap.size a6 N6 c6 R5) := ⟨o6, r6.below bb6⟩
        have Y5 := Lib.hid (X6.out.below bb6)
        have B8 := Lib.hid (B7.out.trans (bb6.mono B7.out.size))
        obtain ⟨g6, hg6⟩ : ∃ b, w7.heap.size = b := ⟨_, rfl⟩
        rw [hg6] at Y6 hZ c0 z0
        have y5 := Y5.out.one.1
        have y6 := Y6.out.one.1
        have TE1 : (E5 != E5) = false := by rw [bne_self_eq_false]
        have TM1 : ((m5 : Int) != (m5 : Int)) = false := by rw [bne_self_eq_false]
        clear o6 bb6 r6 b6 B6 B7 X5 X6 PS RPS
        go_wp2_with fail
        first | rw [hZ] | skip
        clear hZ hg6 c0 z0 y5 y6
        refine (rsame_is a5 a6 N5 c5 N6 c6 R5 R5 true Z Y5.out.reg Y6.out.reg ⟨fun _ => rfl, fun _ => rfl⟩).mono ?_; rintro e w8 ⟨rfl, b8⟩
        have B9 := Lib.hid (B8.out.trans (b8.mono B8.out.size))
        clear b8 B8 Y5 Y6
        go_wp2
        go_roundw
        case rel => exact ⟨j + 1, by omega, by go_num, B9⟩
        case measure => simp [intOf]; omega
      · obtain rfl : j = 4 := by omega
        have BF := Lib.hid (TT.out wr BQ.out)
        clear FS TT BQ
        go_wp2_with fail
        refine (awake_is _ (TAB.out _ BF.out).ct.tabs.cls).mono ?_; rintro e w9 ⟨rfl, b9⟩
        have BZ := Lib.hid (BX.out.trans ((BF.out.trans (b9.mono BF.out.size)).mono BX.out.size))
        clear b9
        go_wp2
        go_ret
        exact ⟨rfl, BZ.out⟩
end Go.Proofs.YthdjpmiohfaphaaGreatDoor.reg

/- RegisterAnswers: the walk's four pieces together. -/
namespace Go.Proofs.YthdjpmiohfaphaaGreatDoor.reg
open Go.RowKit lex aggs kit net deck strs cal

theorem answers_walk (la : Option Addr) (len cap : Nat) (zs : List Int) (ra : Option Addr) (RN rc : Nat) (rps : List Pn) (p : Pn) (s : ByteArray) (k t : Int) (w : World) (hr : IsRow .i64 w la len cap zs) (hraw : RegIn w ra RN rc rps) (hrk : SkI rps) (hpn : p.nm.size ≤ maxLen) (hpk : I64 p.sk) (hsz : s.size ≤ maxLen) (_k0 : -9223372036854775808 ≤ k) (_k1 : k ≤ 9223372036854775807) (_t0 : -9223372036854775808 ≤ t) (_t1 : t ≤ 9223372036854775807) (h : RTabs w) : Calls Tryz.prog 3 #[.slice la len cap, .agg #[.slice ra RN rc], pnV p, .string s, .int .i64 k, .int .i64 t] w fun e w' => e = .returned (.bool true) ∧ Below w.heap.size w w' :=
  part1.snd.snd.snd (Lib.hid fun _ _ => part2) (Lib.hid fun _ _ => part3) (Lib.hid fun _ _ => part4) la len cap zs ra RN rc rps p s k t w hr hraw hrk hpn hpk hsz _k0 _k1 _t0 _t1 h
end Go.Proofs.YthdjpmiohfaphaaGreatDoor.reg
