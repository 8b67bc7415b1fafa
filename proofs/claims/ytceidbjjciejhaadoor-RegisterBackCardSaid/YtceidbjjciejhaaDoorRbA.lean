/- For every list of numbers RegisterBack returns true: who is added is found and can do what they can, Remove leads back, the order of adding does not matter. Condition: the table 'classes' holds what the program's text lays (the card ties that). -/
import Derived.Test.YtceidbjjciejhaaDoorPgW
import Derived.Test.YtceidbjjciejhaaDoorRgJ
import Derived.Test.YtceidbjjciejhaaDoorRgE
import Derived.Test.YtceidbjjciejhaaDoorPgH
import Derived.Test.YtceidbjjciejhaaDoorPgI
namespace Go.Proofs.YtceidbjjciejhaaDoor.reg
open Go.RowKit lex aggs kit net deck

/-- a new box of a register -/
theorem boxed (w : World) (a : Option Addr) (N c : Nat) (W : World) (h : (w.alloc (.cells #[.slice none 0 0] 29)).setCell ⟨w.heap.size, 0, none⟩ (.slice a N c) = W) : OneAt W w.heap.size (.slice a N c) ∧ Below w.heap.size w W ∧ w.heap.size < W.heap.size ∧ (w.alloc (.cells #[.slice none 0 0] 29)).cell? ⟨w.heap.size, 0, none⟩ = some (.slice none 0 0) ∧ (w.alloc (.cells #[.slice none 0 0] 29)).frozen? ⟨w.heap.size, 0, none⟩ = false := by
  have hz := heap_alloc_new w (.cells #[.slice none 0 0] 29)
  have hset := set_at (i := 0) (.slice a N c) hz
  obtain ⟨c0, z0⟩ := cell_at hz 0
  rw [h] at hset
  have hl := lt_of_block hset
  refine ⟨⟨(cell_at hset 0).1, hl⟩, ?_, hl, c0, z0⟩
  rw [← h]
  exact (below_box w _).setCell (p := ⟨w.heap.size, 0, none⟩) (Nat.le_refl _) _
/-- a register in a box -/
structure Bx (W : World) (g : Nat) (a : Option Addr) (N c : Nat) (qs : List Pn) : Prop where
  one : OneAt W g (.slice a N c)
  reg : RegIn W a N c qs
theorem Bx.below {W W' : World} {g : Nat} {a : Option Addr} {N c : Nat} {qs : List Pn} (h : Bx W g a N c qs) (b : Below W.heap.size W W') : Bx W' g a N c qs := ⟨h.one.below b h.one.2, h.reg.below b⟩
/-- what the law holds: a register, two people -/
structure Bk (W0 W : World) (rb pb qb : Nat) (a : Option Addr) (N c : Nat) (ps : List Pn) (p q : Pn) : Prop where
  below : Below W0.heap.size W0 W
  r : Bx W rb a N c ps
  pp : PnAt W pb p
  qq : PnAt W qb q
  cls : HasClasses W
theorem Bk.step {W0 W W' : World} {rb pb qb : Nat} {a : Option Addr} {N c : Nat} {ps : List Pn} {p q : Pn} (h : Bk W0 W rb pb qb a N c ps p q) (b : Below W.heap.size W W') : Bk W0 W' rb pb qb a N c ps p q :=
  ⟨h.below.trans (b.mono h.below.size), h.r.below b, h.pp.below b h.pp.2.2.2.2.2, h.qq.below b h.qq.2.2.2.2.2, h.cls.below b⟩
set_option maxRecDepth 100000 in
set_option maxHeartbeats 8000000 in
theorem back_walk (la : Option Addr) (len cap : Nat) (zs : List Int) (W0 : World)
    (hr : IsRow .i64 W0 la len cap zs) (h : HasClasses W0) :
    Calls Tryd.prog 4 #[.slice la len cap] W0 fun e w' => e = .returned (.bool true) ∧ Below W0.heap.size W0 w' := by
  have hl : len ≤ 9223372036854775807 := by
    rcases hr with ⟨_, h, _⟩ | ⟨_, _, h1, h2, _⟩
    · omega
    · unfold maxLen at h2; omega
  have H0 := Lib.hid h
  have HR0 := Lib.hid hr
  clear h hr
  by_cases h4 : len ≤ 400
  · have t1 : decide ((len : Int) ≤ 400) = true := decide_eq_true (by omega)
    go_enter Tryd.func4, Tryd.ntmps4
    go_wp2_with fail
    refine (few_any _ _ _ _ hl).mono ?_; rintro e w' ⟨rfl, rfl⟩
    go_wp2_with fail
    refine (newg_any _ _ _ _).mono ?_; rintro e w1 ⟨rfl, g1⟩
    have hbw := g1.lt
    obtain ⟨bd, hbd⟩ : ∃ b, W0.heap.size = b := ⟨_, rfl⟩
    have HB := Lib.hid hbd
    rw [hbd] at hbw g1 ⊢
    clear hbd h4 t1 hl
    go_wp2_with fail
    refine (some_is g1 HR0.out).mono ?_; rintro e w2 ⟨a, N, c, ps, rfl, rg, ok, l6, g2, gb2⟩
    obtain ⟨W1, hW1⟩ : ∃ W, (w2.alloc (.cells #[.slice none 0 0] 29)).setCell ⟨w2.heap.size, 0, none⟩ (.slice a N c) = W := ⟨_, rfl⟩
    obtain ⟨o1, b1, l1, c0, z0⟩ := boxed w2 a N c W1 hW1
    obtain ⟨rb, hrb⟩ : ∃ b, w2.heap.size = b := ⟨_, rfl⟩
    have hrbd : rb ≠ bd := by have := g2.lt; omega
    rw [hrb] at hW1 o1 l1 c0 z0
    have G1 := Lib.hid (g2.by_below b1)
    have RG1 := Lib.hid (rg.below b1)
    have RB1 := Lib.hid o1
    have OKP := Lib.hid ok
    have L6 := Lib.hid l6
    clear b1 o1 rg ok g1 g2 gb2 l6 hbw l1
    go_wp2_with fail
    first | rw [hW1] | skip
    clear hW1 c0 z0 hrb
    refine (person_is G1.out HR0.out).mono ?_; rintro e w3 ⟨p, rfl, p0, ps0, g3, gb3⟩
    have GB3 := Lib.hid gb3
    have G3 := Lib.hid g3
    have P0 := Lib.hid p0
    have PS0 := Lib.hid ps0
    clear p0 ps0 g3 gb3
    go_wp2_with fail
    refine (person_is G3.out HR0.out).mono ?_; rintro e w4 ⟨q, rfl, q0, qs0, g4, gb4⟩
    have GB4 := Lib.hid (gb_tr GB3.out gb4)
    have G4 := Lib.hid g4
    have Q0 := Lib.hid q0
    have QS0 := Lib.hid qs0
    clear q0 qs0 g4 gb4
    have hb1 := RB1.out.2
    have RG4 := Lib.hid (RG1.out.far G1.out.deck GB4.out)
    have RB4 : Hid (OneAt w4 rb (.slice a N c)) := ⟨GB4.out.cell RB1.out.1 (by simpa using hrbd), Nat.lt_of_lt_of_le hb1 GB4.out.size⟩
    have R4 := RG4.out
    have b5 := below_box w4 (.cells #[.string p.nm, .int .i64 p.co, .int .i64 p.sk, .int .i64 p.fr, .int .i64 p.un] 32)
    have b6 := below_box (w4.alloc (.cells #[.string p.nm, .int .i64 p.co, .int .i64 p.sk, .int .i64 p.fr, .int .i64 p.un] 32)) (.cells #[.string q.nm, .int .i64 q.co, .int .i64 q.sk, .int .i64 q.fr, .int .i64 q.un] 32)
    have b56 := b5.trans (b6.mono b5.size)
    have pn5 := (PnAt.new w4 p 32).below b6 (by simp)
    have pn6 := PnAt.new (w4.alloc (.cells #[.string p.nm, .int .i64 p.co, .int .i64 p.sk, .int .i64 p.fr, .int .i64 p.un] 32)) q 32
    rw [World.size_alloc] at pn6
    have bw4 := G4.out.below
    have K : Hid (Bk W0 ((w4.alloc (.cells #[.string p.nm, .int .i64 p.co, .int .i64 p.sk, .int .i64 p.fr, .int .i64 p.un] 32)).alloc (.cells #[.string q.nm, .int .i64 q.co, .int .i64 q.sk, .int .i64 q.fr, .int .i64 q.un] 32)) rb w4.heap.size (w4.heap.size + 1) a N c ps p q) := ⟨bw4.trans (b56.mono bw4.size), Bx.below ⟨RB4.out, R4⟩ b56, pn5, pn6, H0.out.below (bw4.trans (b56.mono bw4.size))⟩
    obtain ⟨pb, hpb⟩ : ∃ b, w4.heap.size = b := ⟨_, rfl⟩
    have hpb2 : (w4.alloc (.cells #[.string p.nm, .int .i64 p.co, .int .i64 p.sk, .int .i64 p.fr, .int .i64 p.un] 32)).heap.size = pb + 1 := by rw [World.size_alloc, hpb]
    rw [hpb] at K
    obtain ⟨E, hE⟩ : ∃ E, (addP ps p).2 = E := ⟨_, rfl⟩
    have hE04 := add_or OKP.out P0.out (by have := L6.out; omega)
    have TWICE := Lib.hid (fun e => add_twice OKP.out P0.out e)
    have SK0 := SkI.of_ok OKP.out
    have PK := I64.of_ok P0.out
    have QK := I64.of_ok Q0.out
    have SKI := Lib.hid SK0
    have AO := add_ok OKP.out P0.out
    have SK7 := Lib.hid (SkI.of_ok AO.1)
    have AD := Lib.hid (fun W (k : Bk W0 W rb pb (pb + 1) a N c ps p q) => add_is a N c ps p W k.r.reg k.cls SK0 PS0.out PK)
    have AQ := Lib.hid (fun W (k : Bk W0 W rb pb (pb + 1) a N c ps p q) => add_is a N c ps q W k.r.reg k.cls SK0 QS0.out QK)
    have FD := Lib.hid (fun W (k : Bk W0 W rb pb (pb + 1) a N c ps p q) => find_is a N c ps p.nm _ W k.r.reg k.cls SK0 rfl)
    have ADD := Lib.hid (fun W a' N' c' qs (k : Bk W0 W rb pb (pb + 1) a N c ps p q) (h : RegIn W a' N' c' qs) (o : Ok qs) => add_is a' N' c' qs p W h k.cls (SkI.of_ok o) PS0.out PK)
    have ADQ := Lib.hid (fun W a' N' c' qs (k : Bk W0 W rb pb (pb + 1) a N c ps p q) (h : RegIn W a' N' c' qs) (o : Ok qs) => add_is a' N' c' qs q W h k.cls (SkI.of_ok o) QS0.out QK)
    have F1 := Lib.hid (fun e => fndP_add_no (ps := ps) (p := p) e)
    have F2 := Lib.hid (fun e => can_add (ps := ps) (p := p) e)
    have F3 := Lib.hid (fun e => can_until (ps := ps) (p := p) e 31)
    have F4 := Lib.hid (fun e => rem_add (ps := ps) (p := p) e)
    have F5 := Lib.hid (fun h1 h2 h3 => add_comm (ps := ps) (p := p) (q := q) h1 h2 h3)
    rw [hE] at hE04
    have AOK := Lib.hid AO
    obtain ⟨nm, co, sk, fr, un⟩ := p
    obtain ⟨nm2, co2, sk2, fr2, un2⟩ := q
    unfold pnV at AD AQ ADD ADQ ⊢
    dsimp only at AD AQ ADD ADQ K FD F1 F2 F3 F4 hpb2 ⊢
    clear RG1 RB1 GB3 GB4 G1 G3 R4 b5 b6 b56 pn5 pn6 bw4 RG4 RB4 hb1 PK QK SK0 AO P0 Q0 PS0 QS0 G4 OKP L6
    obtain ⟨k4, -⟩ := K.out.r.one
    go_wp2_with fail
    obtain ⟨W5, hW5⟩ : ∃ W, (w4.alloc (.cells #[.string nm, .int .i64 co, .int .i64 sk, .int .i64 fr, .int .i64 un] 32)).alloc (.cells #[.string nm2, .int .i64 co2, .int .i64 sk2, .int .i64 fr2, .int .i64 un2] 32) = W := ⟨_, rfl⟩
    rw [hW5] at K ⊢
    (try rw [hpb])
    clear k4 hW5
    obtain ⟨k4, -⟩ := K.out.r.one
    obtain ⟨p0, p1, p2, p3, p4, -⟩ := K.out.pp
    obtain ⟨q0, q1, q2, q3, q4, -⟩ := K.out.qq
    dsimp only at p0 p1 p2 p3 p4 q0 q1 q2 q3 q4
    refine (AD.out _ K.out).mono ?_; rintro e w6 ⟨a7, N7, c7, rfl, r7, b7⟩
    clear k4 p0 p1 p2 p3 p4 q0 q1 q2 q3 q4
    have K := Lib.hid (K.out.step b7)
    clear b7
    rw [hE]
    obtain ⟨V7, hV7⟩ : ∃ W, (w6.alloc (.cells #[.slice none 0 0] 29)).setCell ⟨w6.heap.size, 0, none⟩ (.slice a7 N7 c7) = W := ⟨_, rfl⟩
    obtain ⟨o7, bb7, -, c0, z0⟩ := boxed w6 a7 N7 c7 V7 hV7
    have X7 : Hid (Bx V7 w6.heap.size a7 N7 c7 (addP ps ⟨nm, co, sk, fr, un⟩).1) := ⟨o7, r7.below bb7⟩
    have K := Lib.hid (K.out.step bb7)
    obtain ⟨g7, hg7⟩ : ∃ b, w6.heap.size = b := ⟨_, rfl⟩
    rw [hg7] at X7 hV7 c0 z0
    clear o7 bb7 r7
    rcases hE04 with e0 | e4
    · subst e0
      obtain ⟨k4, -⟩ := K.out.r.one
      obtain ⟨p0, p1, p2, p3, p4, -⟩ := K.out.pp
      obtain ⟨q0, q1, q2, q3, q4, -⟩ := K.out.qq
      dsimp only at p0 p1 p2 p3 p4 q0 q1 q2 q3 q4
      obtain ⟨x7, -⟩ := X7.out.one
      go_wp2_with fail
      first | rw [hV7] | skip
      clear hV7 c0 z0 hg7
      refine (remove_is a7 N7 c7 _ nm _ X7.out.reg K.out.cls SK7.out).mono ?_; rintro e w8 ⟨a9, N9, c9, rfl, r9, b9⟩
      clear k4 p0 p1 p2 p3 p4 q0 q1 q2 q3 q4 x7
      have K := Lib.hid (K.out.step b9)
      have X7 := Lib.hid (X7.out.below b9)
      clear b9
      rw [F4.out hE] at r9 ⊢
      obtain ⟨V9, hV9⟩ : ∃ W, (w8.alloc (.cells #[.slice none 0 0] 29)).setCell ⟨w8.heap.size, 0, none⟩ (.slice a9 N9 c9) = W := ⟨_, rfl⟩
      obtain ⟨o9, bb9, -, c0, z0⟩ := boxed w8 a9 N9 c9 V9 hV9
      have X9 : Hid (Bx V9 w8.heap.size a9 N9 c9 ps) := ⟨o9, r9.below bb9⟩
      have K := Lib.hid (K.out.step bb9)
      have X7 := Lib.hid (X7.out.below bb9)
      obtain ⟨g9, hg9⟩ : ∃ b, w8.heap.size = b := ⟨_, rfl⟩
      rw [hg9] at X9 hV9 c0 z0
      clear o9 bb9 r9
      obtain ⟨k4, -⟩ := K.out.r.one
      obtain ⟨p0, p1, p2, p3, p4, -⟩ := K.out.pp
      obtain ⟨q0, q1, q2, q3, q4, -⟩ := K.out.qq
      dsimp only at p0 p1 p2 p3 p4 q0 q1 q2 q3 q4
      obtain ⟨x7, -⟩ := X7.out.one
      obtain ⟨x9, -⟩ := X9.out.one
      have r1 := rsame_is a9 a N9 c9 N c ps ps true V9 X9.out.reg K.out.r.reg (by simp)
      go_wp2_with fail
      first | rw [hV9] | skip
      clear hV9 c0 z0 hg9
      refine r1.mono ?_; rintro e v1 ⟨rfl, b1⟩
      clear k4 p0 p1 p2 p3 p4 q0 q1 q2 q3 q4 x7 x9
      have K := Lib.hid (K.out.step b1)
      have X7 := Lib.hid (X7.out.below b1)
      have X9 := Lib.hid (X9.out.below b1)
      clear b1
      obtain ⟨k4, -⟩ := K.out.r.one
      obtain ⟨p0, p1, p2, p3, p4, -⟩ := K.out.pp
      obtain ⟨q0, q1, q2, q3, q4, -⟩ := K.out.qq
      dsimp only at p0 p1 p2 p3 p4 q0 q1 q2 q3 q4
      obtain ⟨x7, -⟩ := X7.out.one
      obtain ⟨x9, -⟩ := X9.out.one
      go_wp2_with fail
      refine (FD.out _ K.out).mono ?_; rintro e v2 ⟨rfl, b2⟩
      rw [F1.out hE]
      clear k4 p0 p1 p2 p3 p4 q0 q1 q2 q3 q4 x7 x9
      have K := Lib.hid (K.out.step b2)
      have X7 := Lib.hid (X7.out.below b2)
      have X9 := Lib.hid (X9.out.below b2)
      clear b2
      by_cases s0 : 0 < sk
      · have TS : decide ((0 : Int) < sk) = true := decide_eq_true s0
        obtain ⟨k4, -⟩ := K.out.r.one
        obtain ⟨p0, p1, p2, p3, p4, -⟩ := K.out.pp
        obtain ⟨q0, q1, q2, q3, q4, -⟩ := K.out.qq
        dsimp only at p0 p1 p2 p3 p4 q0 q1 q2 q3 q4
        obtain ⟨x7, -⟩ := X7.out.one
        obtain ⟨x9, -⟩ := X9.out.one
        have cu := can_is a7 N7 c7 _ nm sk fr _ _ X7.out.reg K.out.cls SK7.out (F2.out hE s0)
        go_wp2_with fail
        refine cu.mono ?_; rintro e v3 ⟨rfl, b3⟩
        clear k4 p0 p1 p2 p3 p4 q0 q1 q2 q3 q4 x7 x9
        have K := Lib.hid (K.out.step b3)
        have X7 := Lib.hid (X7.out.below b3)
        have X9 := Lib.hid (X9.out.below b3)
        clear b3
        obtain ⟨k4, -⟩ := K.out.r.one
        obtain ⟨p0, p1, p2, p3, p4, -⟩ := K.out.pp
        obtain ⟨q0, q1, q2, q3, q4, -⟩ := K.out.qq
        dsimp only at p0 p1 p2 p3 p4 q0 q1 q2 q3 q4
        obtain ⟨x7, -⟩ := X7.out.one
        obtain ⟨x9, -⟩ := X9.out.one
        have cu := can_is a7 N7 c7 _ nm 31 un _ _ X7.out.reg K.out.cls SK7.out (F3.out hE)
        go_wp2_with fail
        refine cu.mono ?_; rintro e v4 ⟨rfl, b4⟩
        clear k4 p0 p1 p2 p3 p4 q0 q1 q2 q3 q4 x7 x9
        have K := Lib.hid (K.out.step b4)
        have X7 := Lib.hid (X7.out.below b4)
        have X9 := Lib.hid (X9.out.below b4)
        clear b4
        obtain ⟨k4, -⟩ := K.out.r.one
        obtain ⟨p0, p1, p2, p3, p4, -⟩ := K.out.pp
        obtain ⟨q0, q1, q2, q3, q4, -⟩ := K.out.qq
        dsimp only at p0 p1 p2 p3 p4 q0 q1 q2 q3 q4
        obtain ⟨x7, -⟩ := X7.out.one
        obtain ⟨x9, -⟩ := X9.out.one
        go_wp2_with fail
        refine (ADQ.out _ _ _ _ _ K.out X7.out.reg AOK.out.1).mono ?_; rintro e w11 ⟨a11, N11, c11, rfl, r11, b11⟩
        clear k4 p0 p1 p2 p3 p4 q0 q1 q2 q3 q4 x7 x9
        have K := Lib.hid (K.out.step b11)
        have X7 := Lib.hid (X7.out.below b11)
        have X9 := Lib.hid (X9.out.below b11)
        clear b11
        obtain ⟨V11, hV11⟩ : ∃ W, (w11.alloc (.cells #[.slice none 0 0] 29)).setCell ⟨w11.heap.size, 0, none⟩ (.slice a11 N11 c11) = W := ⟨_, rfl⟩
        obtain ⟨o11, bb11, -, c0, z0⟩ := boxed w11 a11 N11 c11 V11 hV11
        have X11 : Hid (Bx V11 w11.heap.size a11 N11 c11 (addP (addP ps ⟨nm, co, sk, fr, un⟩).1 ⟨nm2, co2, sk2, fr2, un2⟩).1) := ⟨o11, r11.below bb11⟩
        have K := Lib.hid (K.out.step bb11)
        have X7 := Lib.hid (X7.out.below bb11)
        have X9 := Lib.hid (X9.out.below bb11)
        obtain ⟨g11, hg11⟩ : ∃ b, w11.heap.size = b := ⟨_, rfl⟩
        rw [hg11] at X11 hV11 c0 z0
        clear o11 bb11 r11
        obtain ⟨k4, -⟩ := K.out.r.one
        obtain ⟨p0, p1, p2, p3, p4, -⟩ := K.out.pp
        obtain ⟨q0, q1, q2, q3, q4, -⟩ := K.out.qq
        dsimp only at p0 p1 p2 p3 p4 q0 q1 q2 q3 q4
        obtain ⟨x7, -⟩ := X7.out.one
        obtain ⟨x9, -⟩ := X9.out.one
        obtain ⟨x11, -⟩ := X11.out.one
        go_wp2_with fail
        first | rw [hV11] | skip
        clear hV11 c0 z0 hg11
        refine (AQ.out _ K.out).mono ?_; rintro e w13 ⟨a13, N13, c13, rfl, r13, b13⟩
        clear k4 p0 p1 p2 p3 p4 q0 q1 q2 q3 q4 x7 x9 x11
        have K := Lib.hid (K.out.step b13)
        have X7 := Lib.hid (X7.out.below b13)
        have X9 := Lib.hid (X9.out.below b13)
        have X11 := Lib.hid (X11.out.below b13)
        clear b13
        obtain ⟨V13, hV13⟩ : ∃ W, (w13.alloc (.cells #[.slice none 0 0] 29)).setCell ⟨w13.heap.size, 0, none⟩ (.slice a13 N13 c13) = W := ⟨_, rfl⟩
        obtain ⟨o13, bb13, -, c0, z0⟩ := boxed w13 a13 N13 c13 V13 hV13
        have X13 : Hid (Bx V13 w13.heap.size a13 N13 c13 (addP ps ⟨nm2, co2, sk2, fr2, un2⟩).1) := ⟨o13, r13.below bb13⟩
        have K := Lib.hid (K.out.step bb13)
        have X7 := Lib.hid (X7.out.below bb13)
        have X9 := Lib.hid (X9.out.below bb13)
        have X11 := Lib.hid (X11.out.below bb13)
        obtain ⟨g13, hg13⟩ : ∃ b, w13.heap.size = b := ⟨_, rfl⟩
        rw [hg13] at X13 hV13 c0 z0
        clear o13 bb13 r13
        obtain ⟨EG, hEG⟩ : ∃ E, (addP (addP ps ⟨nm, co, sk, fr, un⟩).1 ⟨nm2, co2, sk2, fr2, un2⟩).2 = E := ⟨_, rfl⟩
        obtain ⟨EH, hEH⟩ : ∃ E, (addP ps ⟨nm2, co2, sk2, fr2, un2⟩).2 = E := ⟨_, rfl⟩
        rw [hEG, hEH]
        by_cases g0 : EG = 0
        · subst g0
          by_cases h0 : EH = 0
          · subst h0
            obtain hF5 := F5.out hE hEG hEH
            obtain ⟨-, -, -, -, hy5, hy6⟩ := addP_ok hEH
            have OKY : Ok (addP ps ⟨nm2, co2, sk2, fr2, un2⟩).1 := by rw [hy5]; exact hy6
            obtain ⟨k4, -⟩ := K.out.r.one
            obtain ⟨p0, p1, p2, p3, p4, -⟩ := K.out.pp
            obtain ⟨q0, q1, q2, q3, q4, -⟩ := K.out.qq
            dsimp only at p0 p1 p2 p3 p4 q0 q1 q2 q3 q4
            obtain ⟨x7, -⟩ := X7.out.one
            obtain ⟨x9, -⟩ := X9.out.one
            obtain ⟨x11, -⟩ := X11.out.one
            obtain ⟨x13, -⟩ := X13.out.one
            go_wp2_with fail
            first | rw [hV13] | skip
            clear hV13 c0 z0 hg13
            refine (ADD.out _ _ _ _ _ K.out X13.out.reg OKY).mono ?_; rintro e w15 ⟨a15, N15, c15, rfl, r15, b15⟩
            rw [hF5] at r15 ⊢
            clear k4 p0 p1 p2 p3 p4 q0 q1 q2 q3 q4 x7 x9 x11 x13
            have K := Lib.hid (K.out.step b15)
            have X7 := Lib.hid (X7.out.below b15)
            have X9 := Lib.hid (X9.out.below b15)
            have X11 := Lib.hid (X11.out.below b15)
            have X13 := Lib.hid (X13.out.below b15)
            clear b15
            obtain ⟨V15, hV15⟩ : ∃ W, (w15.alloc (.cells #[.slice none 0 0] 29)).setCell ⟨w15.heap.size, 0, none⟩ (.slice a15 N15 c15) = W := ⟨_, rfl⟩
            obtain ⟨o15, bb15, -, c0, z0⟩ := boxed w15 a15 N15 c15 V15 hV15
            have X15 : Hid (Bx V15 w15.heap.size a15 N15 c15 (addP (addP ps ⟨nm, co, sk, fr, un⟩).1 ⟨nm2, co2, sk2, fr2, un2⟩).1) := ⟨o15, r15.below bb15⟩
            have K := Lib.hid (K.out.step bb15)
            have X7 := Lib.hid (X7.out.below bb15)
            have X9 := Lib.hid (X9.out.below bb15)
            have X11 := Lib.hid (X11.out.below bb15)
            have X13 := Lib.hid (X13.out.below bb15)
            obtain ⟨g15, hg15⟩ : ∃ b, w15.heap.size = b := ⟨_, rfl⟩
            rw [hg15] at X15 hV15 c0 z0
            clear o15 bb15 r15
            obtain ⟨k4, -⟩ := K.out.r.one
            obtain ⟨p0, p1, p2, p3, p4, -⟩ := K.out.pp
            obtain ⟨q0, q1, q2, q3, q4, -⟩ := K.out.qq
            dsimp only at p0 p1 p2 p3 p4 q0 q1 q2 q3 q4
            obtain ⟨x7, -⟩ := X7.out.one
            obtain ⟨x9, -⟩ := X9.out.one
            obtain ⟨x11, -⟩ := X11.out.one
            obtain ⟨x13, -⟩ := X13.out.one
            obtain ⟨x15, -⟩ := X15.out.one
            have r2 := rsame_is a11 a15 N11 c11 N15 c15 _ _ true V15 X11.out.reg X15.out.reg (by simp)
            go_wp2_with fail
            first | rw [hV15] | skip
            clear hV15 c0 z0 hg15
            refine r2.mono ?_; rintro e v5 ⟨rfl, b5⟩
            clear k4 p0 p1 p2 p3 p4 q0 q1 q2 q3 q4 x7 x9 x11 x13 x15
            have K := Lib.hid (K.out.step b5)
            have X7 := Lib.hid (X7.out.below b5)
            have X9 := Lib.hid (X9.out.below b5)
            have X11 := Lib.hid (X11.out.below b5)
            have X13 := Lib.hid (X13.out.below b5)
            have X15 := Lib.hid (X15.out.below b5)
            clear b5
            go_wp2_with fail
            refine (awake_is _ K.out.cls).mono ?_; rintro e v6 ⟨rfl, b6⟩
            have K := Lib.hid (K.out.step b6)
            clear b6
            go_wp2
            go_ret
            exact ⟨rfl, K.out.below⟩
          · have TH : (EH == 0) = false := beq_eq_false_iff_ne.2 h0
            obtain ⟨k4, -⟩ := K.out.r.one
            obtain ⟨p0, p1, p2, p3, p4, -⟩ := K.out.pp
            obtain ⟨q0, q1, q2, q3, q4, -⟩ := K.out.qq
            dsimp only at p0 p1 p2 p3 p4 q0 q1 q2 q3 q4
            obtain ⟨x7, -⟩ := X7.out.one
            obtain ⟨x9, -⟩ := X9.out.one
            obtain ⟨x11, -⟩ := X11.out.one
            obtain ⟨x13, -⟩ := X13.out.one
            go_wp2_with fail
            first | rw [hV13] | skip
            clear hV13 c0 z0 hg13
            refine (awake_is _ K.out.cls).mono ?_; rintro e v6 ⟨rfl, b6⟩
            have K := Lib.hid (K.out.step b6)
            clear b6
            go_wp2
            go_ret
            exact ⟨rfl, K.out.below⟩
        · have TG : (EG == 0) = false := beq_eq_false_iff_ne.2 g0
          obtain ⟨k4, -⟩ := K.out.r.one
          obtain ⟨p0, p1, p2, p3, p4, -⟩ := K.out.pp
          obtain ⟨q0, q1, q2, q3, q4, -⟩ := K.out.qq
          dsimp only at p0 p1 p2 p3 p4 q0 q1 q2 q3 q4
          obtain ⟨x7, -⟩ := X7.out.one
          obtain ⟨x9, -⟩ := X9.out.one
          obtain ⟨x11, -⟩ := X11.out.one
          obtain ⟨x13, -⟩ := X13.out.one
          go_wp2_with fail
          first | rw [hV13] | skip
          clear hV13 c0 z0 hg13
          refine (awake_is _ K.out.cls).mono ?_; rintro e v6 ⟨rfl, b6⟩
          have K := Lib.hid (K.out.step b6)
          clear b6
          go_wp2
          go_ret
          exact ⟨rfl, K.out.below⟩
      · have TS : decide ((0 : Int) < sk) = false := decide_eq_false s0
        obtain ⟨k4, -⟩ := K.out.r.one
        obtain ⟨p0, p1, p2, p3, p4, -⟩ := K.out.pp
        obtain ⟨q0, q1, q2, q3, q4, -⟩ := K.out.qq
        dsimp only at p0 p1 p2 p3 p4 q0 q1 q2 q3 q4
        obtain ⟨x7, -⟩ := X7.out.one
        obtain ⟨x9, -⟩ := X9.out.one
        have cu := can_is a7 N7 c7 _ nm 31 un _ _ X7.out.reg K.out.cls SK7.out (F3.out hE)
        go_wp2_with fail
        refine cu.mono ?_; rintro e v4 ⟨rfl, b4⟩
        clear k4 p0 p1 p2 p3 p4 q0 q1 q2 q3 q4 x7 x9
        have K := Lib.hid (K.out.step b4)
        have X7 := Lib.hid (X7.out.below b4)
        have X9 := Lib.hid (X9.out.below b4)
        clear b4
        obtain ⟨k4, -⟩ := K.out.r.one
        obtain ⟨p0, p1, p2, p3, p4, -⟩ := K.out.pp
        obtain ⟨q0, q1, q2, q3, q4, -⟩ := K.out.qq
        dsimp only at p0 p1 p2 p3 p4 q0 q1 q2 q3 q4
        obtain ⟨x7, -⟩ := X7.out.one
        obtain ⟨x9, -⟩ := X9.out.one
        go_wp2_with fail
        refine (ADQ.out _ _ _ _ _ K.out X7.out.reg AOK.out.1).mono ?_; rintro e w11 ⟨a11, N11, c11, rfl, r11, b11⟩
        clear k4 p0 p1 p2 p3 p4 q0 q1 q2 q3 q4 x7 x9
        have K := Lib.hid (K.out.step b11)
        have X7 := Lib.hid (X7.out.below b11)
        have X9 := Lib.hid (X9.out.below b11)
        clear b11
        obtain ⟨V11, hV11⟩ : ∃ W, (w11.alloc (.cells #[.slice none 0 0] 29)).setCell ⟨w11.heap.size, 0, none⟩ (.slice a11 N11 c11) = W := ⟨_, rfl⟩
        obtain ⟨o11, bb11, -, c0, z0⟩ := boxed w11 a11 N11 c11 V11 hV11
        have X11 : Hid (Bx V11 w11.heap.size a11 N11 c11 (addP (addP ps ⟨nm, co, sk, fr, un⟩).1 ⟨nm2, co2, sk2, fr2, un2⟩).1) := ⟨o11, r11.below bb11⟩
        have K := Lib.hid (K.out.step bb11)
        have X7 := Lib.hid (X7.out.below bb11)
        have X9 := Lib.hid (X9.out.below bb11)
        obtain ⟨g11, hg11⟩ : ∃ b, w11.heap.size = b := ⟨_, rfl⟩
        rw [hg11] at X11 hV11 c0 z0
        clear o11 bb11 r11
        obtain ⟨k4, -⟩ := K.out.r.one
        obtain ⟨p0, p1, p2, p3, p4, -⟩ := K.out.pp
        obtain ⟨q0, q1, q2, q3, q4, -⟩ := K.out.qq
        dsimp only at p0 p1 p2 p3 p4 q0 q1 q2 q3 q4
        obtain ⟨x7, -⟩ := X7.out.one
        obtain ⟨x9, -⟩ := X9.out.one
        obtain ⟨x11, -⟩ := X11.out.one
        go_wp2_with fail
        first | rw [hV11] | skip
        clear hV11 c0 z0 hg11
        refine (AQ.out _ K.out).mono ?_; rintro e w13 ⟨a13, N13, c13, rfl, r13, b13⟩
        clear k4 p0 p1 p2 p3 p4 q0 q1 q2 q3 q4 x7 x9 x11
        have K := Lib.hid (K.out.step b13)
        have X7 := Lib.hid (X7.out.below b13)
        have X9 := Lib.hid (X9.out.below b13)
        have X11 := Lib.hid (X11.out.below b13)
        clear b13
        obtain ⟨V13, hV13⟩ : ∃ W, (w13.alloc (.cells #[.slice none 0 0] 29)).setCell ⟨w13.heap.size, 0, none⟩ (.slice a13 N13 c13) = W := ⟨_, rfl⟩
        obtain ⟨o13, bb13, -, c0, z0⟩ := boxed w13 a13 N13 c13 V13 hV13
        have X13 : Hid (Bx V13 w13.heap.size a13 N13 c13 (addP ps ⟨nm2, co2, sk2, fr2, un2⟩).1) := ⟨o13, r13.below bb13⟩
        have K := Lib.hid (K.out.step bb13)
        have X7 := Lib.hid (X7.out.below bb13)
        have X9 := Lib.hid (X9.out.below bb13)
        have X11 := Lib.hid (X11.out.below bb13)
        obtain ⟨g13, hg13⟩ : ∃ b, w13.heap.size = b := ⟨_, rfl⟩
        rw [hg13] at X13 hV13 c0 z0
        clear o13 bb13 r13
        obtain ⟨EG, hEG⟩ : ∃ E, (addP (addP ps ⟨nm, co, sk, fr, un⟩).1 ⟨nm2, co2, sk2, fr2, un2⟩).2 = E := ⟨_, rfl⟩
        obtain ⟨EH, hEH⟩ : ∃ E, (addP ps ⟨nm2, co2, sk2, fr2, un2⟩).2 = E := ⟨_, rfl⟩
        rw [hEG, hEH]
        by_cases g0 : EG = 0
        · subst g0
          by_cases h0 : EH = 0
          · subst h0
            obtain hF5 := F5.out hE hEG hEH
            obtain ⟨-, -, -, -, hy5, hy6⟩ := addP_ok hEH
            have OKY : Ok (addP ps ⟨nm2, co2, sk2, fr2, un2⟩).1 := by rw [hy5]; exact hy6
            obtain ⟨k4, -⟩ := K.out.r.one
            obtain ⟨p0, p1, p2, p3, p4, -⟩ := K.out.pp
            obtain ⟨q0, q1, q2, q3, q4, -⟩ := K.out.qq
            dsimp only at p0 p1 p2 p3 p4 q0 q1 q2 q3 q4
            obtain ⟨x7, -⟩ := X7.out.one
            obtain ⟨x9, -⟩ := X9.out.one
            obtain ⟨x11, -⟩ := X11.out.one
            obtain ⟨x13, -⟩ := X13.out.one
            go_wp2_with fail
            first | rw [hV13] | skip
            clear hV13 c0 z0 hg13
            refine (ADD.out _ _ _ _ _ K.out X13.out.reg OKY).mono ?_; rintro e w15 ⟨a15, N15, c15, rfl, r15, b15⟩
            rw [hF5] at r15 ⊢
            clear k4 p0 p1 p2 p3 p4 q0 q1 q2 q3 q4 x7 x9 x11 x13
            have K := Lib.hid (K.out.step b15)
            have X7 := Lib.hid (X7.out.below b15)
            have X9 := Lib.hid (X9.out.below b15)
            have X11 := Lib.hid (X11.out.below b15)
            have X13 := Lib.hid (X13.out.below b15)
            clear b15
            obtain ⟨V15, hV15⟩ : ∃ W, (w15.alloc (.cells #[.slice none 0 0] 29)).setCell ⟨w15.heap.size, 0, none⟩ (.slice a15 N15 c15) = W := ⟨_, rfl⟩
            obtain ⟨o15, bb15, -, c0, z0⟩ := boxed w15 a15 N15 c15 V15 hV15
            have X15 : Hid (Bx V15 w15.heap.size a15 N15 c15 (addP (addP ps ⟨nm, co, sk, fr, un⟩).1 ⟨nm2, co2, sk2, fr2, un2⟩).1) := ⟨o15, r15.below bb15⟩
            have K := Lib.hid (K.out.step bb15)
            have X7 := Lib.hid (X7.out.below bb15)
            have X9 := Lib.hid (X9.out.below bb15)
            have X11 := Lib.hid (X11.out.below bb15)
            have X13 := Lib.hid (X13.out.below bb15)
            obtain ⟨g15, hg15⟩ : ∃ b, w15.heap.size = b := ⟨_, rfl⟩
            rw [hg15] at X15 hV15 c0 z0
            clear o15 bb15 r15
            obtain ⟨k4, -⟩ := K.out.r.one
            obtain ⟨p0, p1, p2, p3, p4, -⟩ := K.out.pp
            obtain ⟨q0, q1, q2, q3, q4, -⟩ := K.out.qq
            dsimp only at p0 p1 p2 p3 p4 q0 q1 q2 q3 q4
            obtain ⟨x7, -⟩ := X7.out.one
            obtain ⟨x9, -⟩ := X9.out.one
            obtain ⟨x11, -⟩ := X11.out.one
            obtain ⟨x13, -⟩ := X13.out.one
            obtain ⟨x15, -⟩ := X15.out.one
            have r2 := rsame_is a11 a15 N11 c11 N15 c15 _ _ true V15 X11.out.reg X15.out.reg (by simp)
            go_wp2_with fail
            first | rw [hV15] | skip
            clear hV15 c0 z0 hg15
            refine r2.mono ?_; rintro e v5 ⟨rfl, b5⟩
            clear k4 p0 p1 p2 p3 p4 q0 q1 q2 q3 q4 x7 x9 x11 x13 x15
            have K := Lib.hid (K.out.step b5)
            have X7 := Lib.hid (X7.out.below b5)
            have X9 := Lib.hid (X9.out.below b5)
            have X11 := Lib.hid (X11.out.below b5)
            have X13 := Lib.hid (X13.out.below b5)
            have X15 := Lib.hid (X15.out.below b5)
            clear b5
            go_wp2_with fail
            refine (awake_is _ K.out.cls).mono ?_; rintro e v6 ⟨rfl, b6⟩
            have K := Lib.hid (K.out.step b6)
            clear b6
            go_wp2
            go_ret
            exact ⟨rfl, K.out.below⟩
          · have TH : (EH == 0) = false := beq_eq_false_iff_ne.2 h0
            obtain ⟨k4, -⟩ := K.out.r.one
            obtain ⟨p0, p1, p2, p3, p4, -⟩ := K.out.pp
            obtain ⟨q0, q1, q2, q3, q4, -⟩ := K.out.qq
            dsimp only at p0 p1 p2 p3 p4 q0 q1 q2 q3 q4
            obtain ⟨x7, -⟩ := X7.out.one
            obtain ⟨x9, -⟩ := X9.out.one
            obtain ⟨x11, -⟩ := X11.out.one
            obtain ⟨x13, -⟩ := X13.out.one
            go_wp2_with fail
            first | rw [hV13] | skip
            clear hV13 c0 z0 hg13
            refine (awake_is _ K.out.cls).mono ?_; rintro e v6 ⟨rfl, b6⟩
            have K := Lib.hid (K.out.step b6)
            clear b6
            go_wp2
            go_ret
            exact ⟨rfl, K.out.below⟩
        · have TG : (EG == 0) = false := beq_eq_false_iff_ne.2 g0
          obtain ⟨k4, -⟩ := K.out.r.one
          obtain ⟨p0, p1, p2, p3, p4, -⟩ := K.out.pp
          obtain ⟨q0, q1, q2, q3, q4, -⟩ := K.out.qq
          dsimp only at p0 p1 p2 p3 p4 q0 q1 q2 q3 q4
          obtain ⟨x7, -⟩ := X7.out.one
          obtain ⟨x9, -⟩ := X9.out.one
          obtain ⟨x11, -⟩ := X11.out.one
          obtain ⟨x13, -⟩ := X13.out.one
          go_wp2_with fail
          first | rw [hV13] | skip
          clear hV13 c0 z0 hg13
          refine (awake_is _ K.out.cls).mono ?_; rintro e v6 ⟨rfl, b6⟩
          have K := Lib.hid (K.out.step b6)
          clear b6
          go_wp2
          go_ret
          exact ⟨rfl, K.out.below⟩
    · subst e4
      have TF : decide ((0 : Int) ≤ fndP ps nm) = true := decide_eq_true (TWICE.out hE)
      obtain ⟨k4, -⟩ := K.out.r.one
      obtain ⟨p0, p1, p2, p3, p4, -⟩ := K.out.pp
      obtain ⟨q0, q1, q2, q3, q4, -⟩ := K.out.qq
      dsimp only at p0 p1 p2 p3 p4 q0 q1 q2 q3 q4
      obtain ⟨x7, -⟩ := X7.out.one
      go_wp2_with fail
      first | rw [hV7] | skip
      clear hV7 c0 z0 hg7
      refine (FD.out _ K.out).mono ?_; rintro e v2 ⟨rfl, b2⟩
      clear k4 p0 p1 p2 p3 p4 q0 q1 q2 q3 q4 x7
      have K := Lib.hid (K.out.step b2)
      have X7 := Lib.hid (X7.out.below b2)
      clear b2
      go_wp2_with fail
      refine (awake_is _ K.out.cls).mono ?_; rintro e v6 ⟨rfl, b6⟩
      have K := Lib.hid (K.out.step b6)
      clear b6
      go_wp2
      go_ret
      exact ⟨rfl, K.out.below⟩
  · have t1 : decide ((len : Int) ≤ 400) = false := decide_eq_false (by omega)
    go_enter Tryd.func4, Tryd.ntmps4
    go_wp2_with fail
    refine (few_any _ _ _ _ hl).mono ?_; rintro e w' ⟨rfl, rfl⟩
    go_wp2_with fail
    refine (awake_is _ H0.out).mono ?_; rintro e w4 ⟨rfl, b4⟩
    have BZ := Lib.hid b4
    clear b4
    go_wp2
    go_ret
    exact ⟨rfl, BZ.out⟩
end Go.Proofs.YtceidbjjciejhaaDoor.reg
