
/-
  What the document fixes on fractions: theodolitelaw3.awake.
-/
import Derived.Test.YtboppbidldomhaaGreatDoorRatS

import Derived.Test.YtboppbidldomhaaGreatDoorRat8

namespace Go.Proofs.YtboppbidldomhaaGreatDoor

open Go.RowKit

namespace Nt

theorem fit_small {q : Rat} (h1 : qn q < LB) (h2 : qd q < LB) : fitq q := ⟨Nat.le_trans (ln_le (k := 1) (by rw [Nat.pow_one]; exact h1)) (by decide), Nat.le_trans (ln_le (k := 1) (by rw [Nat.pow_one]; exact h2)) (by decide)⟩
theorem textI_z (q : Rat) (f : fitq q) : textISp (qs q) (digs (qn q)) = if qs q then 45 :: Lib.decDigits (qn q) else Lib.decDigits (qn q) := by
  have h2 : textSp (digs (qn q)) = Lib.decDigits (qn q) := by
    unfold textSp
    rw [valid_short f.1 (norm_digs _), val_digs]; rfl
  have e1 : validI (qs q) (digs (qn q)) = true := validI_iff.2 ⟨valid_short f.1 (norm_digs _), fun h => digs_len_pos.2 (qn_pos_of_neg h)⟩
  unfold textISp
  rw [e1, if_pos rfl, h2]
theorem textQ_z (q : Rat) (f : fitq q) (s : Bool) (n d : Nat) (hs : qs q = s) (hn : qn q = n) (hd : qd q = d) : textQ q = (if s then 45 :: Lib.decDigits n else Lib.decDigits n) ++ (if d = 1 then [] else 47 :: Lib.decDigits d) := by
  unfold textQ
  rw [textI_z q f, hs, hn, hd]
theorem aw_sum : Rat.divInt 1 3 + Rat.divInt 1 6 = Rat.divInt 1 2 := by
  rw [Rat.divInt_add_divInt _ _ (by decide) (by decide), Rat.divInt_eq_divInt_iff (by decide) (by decide)]; rfl
theorem aw_quo : Rat.divInt 2 3 / Rat.divInt (-4) 9 = Rat.divInt (-3) 2 := by
  rw [Rat.div_def, Rat.inv_divInt, Rat.divInt_mul_divInt, Rat.divInt_eq_divInt_iff (by decide) (by decide)]; rfl
theorem aw_mid : mid (Rat.divInt 1 3) (Rat.divInt 1 2) = Rat.divInt 5 12 := by
  unfold mid
  rw [Rat.divInt_add_divInt _ _ (by decide) (by decide), Rat.divInt_mul_divInt, Rat.divInt_eq_divInt_iff (by decide) (by decide)]; rfl
theorem aw_near1 : near (Rat.divInt 1 3) (Rat.divInt 1 2) = ((1 : Int) : Rat) := by decide
theorem aw_btw1 : btw (Rat.divInt 1 3) (Rat.divInt 1 2) = Rat.divInt 5 12 := by
  unfold btw
  rw [aw_near1, if_neg (by decide), aw_mid]
theorem aw_near2 : near (Rat.divInt (-5) 2) (Rat.divInt (-1) 2) = ((-1 : Int) : Rat) := by decide
theorem aw_btw2 : btw (Rat.divInt (-5) 2) (Rat.divInt (-1) 2) = ((-1 : Int) : Rat) := by
  unfold btw
  rw [aw_near2, if_pos (by decide)]
theorem aw_text1 : textQ (Rat.divInt (-3) 2) = [45, 51, 47, 50] := by
  rw [textQ_z _ (fit_small (by decide) (by decide)) true 3 2 (by decide) (by decide) (by decide)]
  simp [Lib.decDigits]
theorem aw_text2 : textQ (Rat.divInt 5 12) = [53, 47, 49, 50] := by
  rw [textQ_z _ (fit_small (by decide) (by decide)) false 5 12 (by decide) (by decide) (by decide)]
  simp [Lib.decDigits]
theorem aw_text3 : textQ ((-1 : Int) : Rat) = [45, 49] := by
  rw [textQ_z _ (fit_small (by decide) (by decide)) true 1 1 (by decide) (by decide) (by decide)]
  simp [Lib.decDigits]
theorem digits_one {c : UInt8} {n : Nat} (h1 : digitsB [c] = true) (h2 : decV [c] = n) (h3 : n < 10) : parseSp [c] = (digs n, 0) := by
  unfold parseSp
  rw [h1, h2, if_pos rfl, if_pos (Nat.lt_of_lt_of_le (Nat.lt_trans h3 (by decide : 10 < LB)) (by have := Nat.pow_le_pow_right LB_pos (show 1 ≤ 64 by decide); rwa [Nat.pow_one] at this))]
theorem aw_parse1 : parseISp [45, 54] = (isg (-6), idg (-6), 0) := by
  have h1 : cutD [45, 54] = [54] := by decide
  have h2 : parseSp [54] = (digs 6, 0) := digits_one (by decide) (by decide) (by decide)
  have h3 : hasD [45, 54] = true := by decide
  unfold parseISp
  rw [h1, h2, h3]
  have h4 : 0 < (digs 6).length := digs_len_pos.2 (by decide)
  simp only [decide_eq_true h4]
  rfl
theorem aw_parse2 : parseSp [52] = (digs 4, 0) := digits_one (by decide) (by decide) (by decide)
theorem aw_parse3 : qmk (isg (-6)) (-6 : Int).natAbs 4 = Rat.divInt (-3) 2 := by
  have h := qmk_divInt (-6) 4 (by decide)
  rw [show isg 4 = false from rfl, Bool.bne_false] at h
  rw [show (4 : Nat) = (4 : Int).natAbs from rfl, h, Rat.divInt_eq_divInt_iff (by decide) (by decide)]; rfl
theorem aw_floor : (Rat.divInt (-1) 2).floor = -1 := by decide
theorem aw3_sign : cmpZ (-(Rat.divInt 1 2)).num 0 = -1 := by decide

/-- What stays to the end: all that was there, the rows of five fractions. -/
def K5 (w : World) (l : List (Option Addr × Nat)) (W : World) : Prop := Below w.heap.size w W ∧ ∀ p, p ∈ l → Sl W p.1 (digs p.2)
theorem K5.next {w W W' : World} {l : List (Option Addr × Nat)} (k : K5 w l W) (hb : Below W.heap.size W W') : K5 w l W' := ⟨bl_trans k.1 hb, fun p hp => kp' hb (k.2 p hp)⟩
theorem K5.drew {w W : World} {l : List (Option Addr × Nat)} (k : K5 w l W) : K5 w l W.drew := ⟨k.1.drew, k.2⟩
theorem K5.b {w W : World} {l : List (Option Addr × Nat)} (k : K5 w l W) : Below w.heap.size w W := k.1
theorem K5.sl {w W : World} {l : List (Option Addr × Nat)} (k : K5 w l W) {A : Option Addr} {x : Nat} (h : (A, x) ∈ l) : Sl W A (digs x) := k.2 _ h
theorem K5.nil {w W : World} (b : Below w.heap.size w W) : K5 w [] W := ⟨b, fun p hp => by cases hp⟩
theorem K5.cons {w W : World} {l : List (Option Addr × Nat)} (k : K5 w l W) {A : Option Addr} {x : Nat} (s : Sl W A (digs x)) : K5 w ((A, x) :: l) W := ⟨k.1, fun p hp => by
  rcases List.mem_cons.1 hp with e | e
  · rw [e]; exact s
  · exact k.2 p e⟩
theorem mem4 {p a b c : Option Addr × Nat} {l : List (Option Addr × Nat)} : p ∈ a :: b :: c :: p :: l := .tail _ mem3
theorem mem5 {p a b c d : Option Addr × Nat} {l : List (Option Addr × Nat)} : p ∈ a :: b :: c :: d :: p :: l := .tail _ mem4
theorem mem6 {p a b c d e : Option Addr × Nat} {l : List (Option Addr × Nat)} : p ∈ a :: b :: c :: d :: e :: p :: l := .tail _ mem5
theorem mem7 {p a b c d e f : Option Addr × Nat} {l : List (Option Addr × Nat)} : p ∈ a :: b :: c :: d :: e :: f :: p :: l := .tail _ mem6
theorem mem8 {p a b c d e f g : Option Addr × Nat} {l : List (Option Addr × Nat)} : p ∈ a :: b :: c :: d :: e :: f :: g :: p :: l := .tail _ mem7
theorem mem9 {p a b c d e f g h : Option Addr × Nat} {l : List (Option Addr × Nat)} : p ∈ a :: b :: c :: d :: e :: f :: g :: h :: p :: l := .tail _ mem8
theorem mem10 {p a b c d e f g h i : Option Addr × Nat} {l : List (Option Addr × Nat)} : p ∈ a :: b :: c :: d :: e :: f :: g :: h :: i :: p :: l := .tail _ mem9
theorem k15 {c1 c2 c3 c4 c5 c6 c7 c8 c9 c10 c11 c12 c13 c14 c15 k : Prop} (h : c1 ∧ c2 ∧ c3 ∧ c4 ∧ c5 ∧ c6 ∧ c7 ∧ c8 ∧ c9 ∧ c10 ∧ c11 ∧ c12 ∧ c13 ∧ c14 ∧ c15 ∧ k) : k := h.2.2.2.2.2.2.2.2.2.2.2.2.2.2.2
theorem S15_next {w w' : World} (hb : Below w.heap.size w w') {p1 p2 p3 p4 p5 p6 p7 p8 p9 p10 p11 p12 p13 p14 p15 : Addr} {v1 v2 v3 v4 v5 v6 v7 v8 v9 v10 v11 v12 v13 v14 v15 : Value} {w0 : World} {l : List (Option Addr × Nat)}
    (h : w.cell? p1 = some v1 ∧ w.cell? p2 = some v2 ∧ w.cell? p3 = some v3 ∧ w.cell? p4 = some v4 ∧ w.cell? p5 = some v5 ∧ w.cell? p6 = some v6 ∧ w.cell? p7 = some v7 ∧ w.cell? p8 = some v8 ∧ w.cell? p9 = some v9 ∧ w.cell? p10 = some v10 ∧ w.cell? p11 = some v11 ∧ w.cell? p12 = some v12 ∧ w.cell? p13 = some v13 ∧ w.cell? p14 = some v14 ∧ w.cell? p15 = some v15 ∧ K5 w0 l w) :
    w'.cell? p1 = some v1 ∧ w'.cell? p2 = some v2 ∧ w'.cell? p3 = some v3 ∧ w'.cell? p4 = some v4 ∧ w'.cell? p5 = some v5 ∧ w'.cell? p6 = some v6 ∧ w'.cell? p7 = some v7 ∧ w'.cell? p8 = some v8 ∧ w'.cell? p9 = some v9 ∧ w'.cell? p10 = some v10 ∧ w'.cell? p11 = some v11 ∧ w'.cell? p12 = some v12 ∧ w'.cell? p13 = some v13 ∧ w'.cell? p14 = some v14 ∧ w'.cell? p15 = some v15 ∧ K5 w0 l w' := by
  obtain ⟨h1, h2, h3, h4, h5, h6, h7, h8, h9, h10, h11, h12, h13, h14, h15, k⟩ := h
  exact ⟨cell_next hb h1, cell_next hb h2, cell_next hb h3, cell_next hb h4, cell_next hb h5, cell_next hb h6, cell_next hb h7, cell_next hb h8, cell_next hb h9, cell_next hb h10, cell_next hb h11, cell_next hb h12, cell_next hb h13, cell_next hb h14, cell_next hb h15, k.next hb⟩

set_option maxRecDepth 100000 in
set_option maxHeartbeats 16000000 in
theorem awake3_any (w : World) (ht : Pow10 w) :
    Calls Tryz.prog 9 #[] w fun e w' => e = .returned (.bool true) ∧ Below w.heap.size w w' := by
  obtain ⟨q1, hq1⟩ : ∃ q, q = (Rat.divInt 1 3) := ⟨_, rfl⟩
  have fq1 : fitq q1 := by rw [hq1]; exact fit_small (by decide) (by decide)
  obtain ⟨q2, hq2⟩ : ∃ q, q = (Rat.divInt 1 6) := ⟨_, rfl⟩
  have fq2 : fitq q2 := by rw [hq2]; exact fit_small (by decide) (by decide)
  obtain ⟨q3, hq3⟩ : ∃ q, q = (Rat.divInt 1 2) := ⟨_, rfl⟩
  have fq3 : fitq q3 := by rw [hq3]; exact fit_small (by decide) (by decide)
  obtain ⟨q4, hq4⟩ : ∃ q, q = (Rat.divInt 2 3) := ⟨_, rfl⟩
  have fq4 : fitq q4 := by rw [hq4]; exact fit_small (by decide) (by decide)
  obtain ⟨q5, hq5⟩ : ∃ q, q = (Rat.divInt (-4) 9) := ⟨_, rfl⟩
  have fq5 : fitq q5 := by rw [hq5]; exact fit_small (by decide) (by decide)
  obtain ⟨q6, hq6⟩ : ∃ q, q = (Rat.divInt (-3) 2) := ⟨_, rfl⟩
  have fq6 : fitq q6 := by rw [hq6]; exact fit_small (by decide) (by decide)
  obtain ⟨q7, hq7⟩ : ∃ q, q = (Rat.divInt 1 1) := ⟨_, rfl⟩
  have fq7 : fitq q7 := by rw [hq7]; exact fit_small (by decide) (by decide)
  obtain ⟨q9, hq9⟩ : ∃ q, q = (Rat.divInt 5 12) := ⟨_, rfl⟩
  have fq9 : fitq q9 := by rw [hq9]; exact fit_small (by decide) (by decide)
  obtain ⟨q10, hq10⟩ : ∃ q, q = (Rat.divInt (-5) 2) := ⟨_, rfl⟩
  have fq10 : fitq q10 := by rw [hq10]; exact fit_small (by decide) (by decide)
  obtain ⟨q11, hq11⟩ : ∃ q, q = (Rat.divInt (-1) 2) := ⟨_, rfl⟩
  have fq11 : fitq q11 := by rw [hq11]; exact fit_small (by decide) (by decide)
  obtain ⟨q12, hq12⟩ : ∃ q, q = ((-1 : Int) : Rat) := ⟨_, rfl⟩
  have fq12 : fitq q12 := by rw [hq12]; exact fit_small (by decide) (by decide)
  have O_q1 : Hid (∀ W, Below w.heap.size w W → Calls Tryz.prog 42 #[.int .i64 1, .int .i64 3] W (RQ W q1)) := fun W _ => of_pos 1 3 q1 W (by decide) (by decide) (by decide) (by decide) (by decide) (by rw [hq1]; exact qmk_divInt 1 3 (by decide))
  have O_q2 : Hid (∀ W, Below w.heap.size w W → Calls Tryz.prog 42 #[.int .i64 1, .int .i64 6] W (RQ W q2)) := fun W _ => of_pos 1 6 q2 W (by decide) (by decide) (by decide) (by decide) (by decide) (by rw [hq2]; exact qmk_divInt 1 6 (by decide))
  have O_q4 : Hid (∀ W, Below w.heap.size w W → Calls Tryz.prog 42 #[.int .i64 2, .int .i64 3] W (RQ W q4)) := fun W _ => of_pos 2 3 q4 W (by decide) (by decide) (by decide) (by decide) (by decide) (by rw [hq4]; exact qmk_divInt 2 3 (by decide))
  have O_q5 : Hid (∀ W, Below w.heap.size w W → Calls Tryz.prog 42 #[.int .i64 (-4), .int .i64 9] W (RQ W q5)) := fun W _ => of_pos (-4) 9 q5 W (by decide) (by decide) (by decide) (by decide) (by decide) (by rw [hq5]; exact qmk_divInt (-4) 9 (by decide))
  have O_q7 : Hid (∀ W, Below w.heap.size w W → Calls Tryz.prog 42 #[.int .i64 1, .int .i64 1] W (RQ W q7)) := fun W _ => of_pos 1 1 q7 W (by decide) (by decide) (by decide) (by decide) (by decide) (by rw [hq7]; exact qmk_divInt 1 1 (by decide))
  have O_q3 : Hid (∀ W, Below w.heap.size w W → Calls Tryz.prog 42 #[.int .i64 1, .int .i64 2] W (RQ W q3)) := fun W _ => of_pos 1 2 q3 W (by decide) (by decide) (by decide) (by decide) (by decide) (by rw [hq3]; exact qmk_divInt 1 2 (by decide))
  have O_q10 : Hid (∀ W, Below w.heap.size w W → Calls Tryz.prog 42 #[.int .i64 (-5), .int .i64 2] W (RQ W q10)) := fun W _ => of_pos (-5) 2 q10 W (by decide) (by decide) (by decide) (by decide) (by decide) (by rw [hq10]; exact qmk_divInt (-5) 2 (by decide))
  have O_q11 : Hid (∀ W, Below w.heap.size w W → Calls Tryz.prog 42 #[.int .i64 (-1), .int .i64 2] W (RQ W q11)) := fun W _ => of_pos (-1) 2 q11 W (by decide) (by decide) (by decide) (by decide) (by decide) (by rw [hq11]; exact qmk_divInt (-1) 2 (by decide))
  have O_q6 : Hid (∀ W, Below w.heap.size w W → Calls Tryz.prog 42 #[.int .i64 (-3), .int .i64 2] W (RQ W q6)) := fun W _ => of_pos (-3) 2 q6 W (by decide) (by decide) (by decide) (by decide) (by decide) (by rw [hq6]; exact qmk_divInt (-3) 2 (by decide))
  have O_0 : Hid (∀ W, Below w.heap.size w W → Calls Tryz.prog 42 #[.int .i64 0, .int .i64 1] W (RQ W 0)) := fun W _ => of_pos 0 1 0 W (by decide) (by decide) (by decide) (by decide) (by decide) (by rw [qmk_divInt 0 1 (by decide)]; simp)
  have AD := hide (fun X Y U V e f g h W s1 s2 s3 s4 => add_q q1 q2 q3 (by rw [hq1, hq2, hq3]; exact aw_sum) X Y U V e f g h W s1 s2 s3 s4 fq1 fq2 fq3)
  have QU := hide (fun X Y U V e f g h W s1 s2 s3 s4 => quo_q q4 q5 q6 (by rw [hq4, hq5, hq6]; exact aw_quo) X Y U V e f g h W s1 s2 s3 s4 fq4 fq5 (by rw [hq5]; decide) fq6)
  have f0 : fitq 0 := fit_small (by decide) (by decide)
  have QZ := hide (fun X Y U V e f g h W s1 s2 s3 s4 => quo_zero q7 0 X Y U V e f g h W s1 s2 s3 s4 fq7 f0 rfl)
  have BT1 := hide (fun X Y U V e f g h W s1 s2 s3 s4 => between_q q1 q3 _ q9 (by rw [hq1, hq3]; decide) rfl (by rw [hq1, hq3, hq9]; exact aw_btw1) X Y U V e f g h W s1 s2 s3 s4 fq1 fq3 fq9)
  have BT2 := hide (fun X Y U V e f g h W s1 s2 s3 s4 => between_q q10 q11 _ q12 (by rw [hq10, hq11]; decide) rfl (by rw [hq10, hq11, hq12]; exact aw_btw2) X Y U V e f g h W s1 s2 s3 s4 fq10 fq11 fq12)
  have PA : Hid (∀ W, Calls Tryz.prog 44 #[.string { data := #[45, 54, 47, 52] }] W (RQE W q6)) := fun W => parse_q { data := #[45, 54, 47, 52] } [45, 54] [52] (-6) 4 q6 W (by decide) rfl (by decide) aw_parse1 aw_parse2 (by decide) (Nat.le_trans (ln_le (k := 1) (by decide)) (by decide)) (Nat.le_trans (ln_le (k := 1) (by decide)) (by decide)) (by rw [hq6]; exact aw_parse3)
  have SM3 := hide (fun X Y U V e f g h W s1 s2 s3 s4 => same3_q q3 q3 X Y U V e f g h W s1 s2 s3 s4 fq3 fq3 true (decide_eq_true rfl))
  have SM6 := hide (fun X Y U V e f g h W s1 s2 s3 s4 => same3_q q6 q6 X Y U V e f g h W s1 s2 s3 s4 fq6 fq6 true (decide_eq_true rfl))
  have T6 : Hid (∀ X Y e f W, Sl W X (digs (qn q6)) → Sl W Y (digs (qd q6)) → Below w.heap.size w W → Calls Tryz.prog 45 #[.agg #[.bool (qs q6), .slice X (ln (qn q6)) e, .slice Y (ln (qd q6)) f]] W fun e w' => e = .returned (.string { data := #[45, 51, 47, 50] }) ∧ Below W.heap.size W w') := fun X Y e f W s1 s2 k => text_q q6 X Y e f W s1 s2 fq6 (pow_below ht k) [45, 51, 47, 50] (by rw [hq6]; exact aw_text1)
  have T9 : Hid (∀ X Y e f W, Sl W X (digs (qn q9)) → Sl W Y (digs (qd q9)) → Below w.heap.size w W → Calls Tryz.prog 45 #[.agg #[.bool (qs q9), .slice X (ln (qn q9)) e, .slice Y (ln (qd q9)) f]] W fun e w' => e = .returned (.string { data := #[53, 47, 49, 50] }) ∧ Below W.heap.size W w') := fun X Y e f W s1 s2 k => text_q q9 X Y e f W s1 s2 fq9 (pow_below ht k) [53, 47, 49, 50] (by rw [hq9]; exact aw_text2)
  have T12 : Hid (∀ X Y e f W, Sl W X (digs (qn q12)) → Sl W Y (digs (qd q12)) → Below w.heap.size w W → Calls Tryz.prog 45 #[.agg #[.bool (qs q12), .slice X (ln (qn q12)) e, .slice Y (ln (qd q12)) f]] W fun e w' => e = .returned (.string { data := #[45, 49] }) ∧ Below W.heap.size W w') := fun X Y e f W s1 s2 k => text_q q12 X Y e f W s1 s2 fq12 (pow_below ht k) [45, 49] (by rw [hq12]; exact aw_text3)
  have CM := hide (fun X Y U V e f g h W s1 s2 s3 s4 => cmp_q q1 q3 X Y U V e f g h W s1 s2 s3 s4 fq1 fq3 (-1) (by rw [hq1, hq3]; exact cmpQ_lt (by decide)))
  have NG := hide (fun X Y e f W s1 s2 => neg_q q3 X Y e f W s1 s2 fq3)
  have SN := hide (fun X Y e f W s1 s2 => sign_q (-q3) X Y e f W s1 s2 (fitq_neg fq3) (-1) (by rw [hq3]; exact aw3_sign))
  have FL := hide (fun X Y e f W s1 s2 => floor_q q11 X Y e f W s1 s2 fq11 (-1) (by rw [hq11]; exact aw_floor))
  have RI := hide (fun W => rof_z (-1) W (by decide) (by decide))
  have SI := hide (fun X Y e f W s1 s2 => sameInt_z (-1) (-1) X Y e f W s1 s2 (Nat.le_trans (ln_le (k := 1) (by decide)) (by decide)) (Nat.le_trans (ln_le (k := 1) (by decide)) (by decide)) true (decide_eq_true rfl))
  have VA := hide (fun X Y e f W s1 s2 => valid_q 0 X Y e f W s1 s2 f0.1 f0.2)
  have e0 : binOp .eql 27 (.int .i64 0) (.int .i64 0) = pure (.bool true) := rfl
  have e1 : binOp .eql 27 (.int .i64 1) (.int .i64 1) = pure (.bool true) := rfl
  have e2 : binOp .eql 3 (.int .i64 (-1)) (.int .i64 (-1)) = pure (.bool true) := rfl
  clear hq1 hq2 hq3 hq4 hq5 hq6 hq7 hq9 hq10 hq11 hq12 fq1 fq2 fq3 fq4 fq5 fq6 fq7 fq9 fq10 fq11 fq12 f0
  generalize isg (-1) = sg at *
  generalize ln (-1 : Int).natAbs = l1 at *
  generalize digs (-1 : Int).natAbs = dg at *
  go_enter Tryz.func9, Tryz.ntmps9
  go_wp2_with (first
    | (go_at_call 42; (with_reducible refine (O_q1.out _ (.refl _ _)).mono ?_); rintro e w1 ⟨A1, c1, B1, d1, rfl, s1, t1, hb⟩; have g := hb; have b1 := g; clear hb g)
    | (go_at_call 42; (with_reducible refine (O_q2.out _ b1).mono ?_); rintro e w2 ⟨A2, c2, B2, d2, rfl, s2, t2, hb⟩; have g := hb; have s1 := kp' g s1; have t1 := kp' g t1; have b2 := bl_trans b1 g; clear hb g)
    | (go_at_call 10; (with_reducible refine (AD.out A1 B1 A2 B2 c1 d1 c2 d2 _ s1 t1 s2 t2).mono ?_); rintro e w3 ⟨A3, c3, B3, d3, rfl, s3, t3, hb⟩; have g := hb; have b3 := bl_trans b2 g; clear hb g)
    | (go_at_call 42; (with_reducible refine (O_q4.out _ (bl_al b3 _)).mono ?_); rintro e w4 ⟨A4, c4, B4, d4, rfl, s4, t4, hb⟩; have g := bl_one hb; have X3 := hide ((Q3.new (.bool (qs q3)) (.slice A3 (ln (qn q3)) c3) (.slice B3 (ln (qd q3)) d3) w3).next hb); have s3 := kp' g s3; have t3 := kp' g t3; have b4 := bl_trans b3 g; clear hb g)
    | (go_at_call 42; (with_reducible refine (O_q5.out _ b4).mono ?_); rintro e w5 ⟨A5, c5, B5, d5, rfl, s5, t5, hb⟩; have g := hb; have s3 := kp' g s3; have t3 := kp' g t3; have s4 := kp' g s4; have t4 := kp' g t4; have X3 := hide (X3.out.next g); have b5 := bl_trans b4 g; clear hb g)
    | (go_at_call 16; (with_reducible refine (QU.out A4 B4 A5 B5 c4 d4 c5 d5 _ s4 t4 s5 t5).mono ?_); rintro e w6 ⟨A6, c6, B6, d6, rfl, s6, t6, hb⟩; have g := hb; have s3 := kp' g s3; have t3 := kp' g t3; have s4 := kp' g s4; have t4 := kp' g t4; have s5 := kp' g s5; have t5 := kp' g t5; have X3 := hide (X3.out.next g); have b6 := bl_trans b5 g; clear hb g)
    | (go_at_call 42; (with_reducible refine (O_q7.out _ (bl_al b6 _)).mono ?_); rintro e w7 ⟨A7, c7, B7, d7, rfl, s7, t7, hb⟩; have g := bl_one hb; have X6 := hide ((Q3.new (.bool (qs q6)) (.slice A6 (ln (qn q6)) c6) (.slice B6 (ln (qd q6)) d6) w6).next hb); have s3 := kp' g s3; have t3 := kp' g t3; have s6 := kp' g s6; have t6 := kp' g t6; have X3 := hide (X3.out.next g); have b7 := bl_trans b6 g; clear hb g)
    | (go_at_call 42; (with_reducible refine (O_0.out _ b7).mono ?_); rintro e w8 ⟨A8, c8, B8, d8, rfl, s8, t8, hb⟩; have g := hb; have s3 := kp' g s3; have t3 := kp' g t3; have s6 := kp' g s6; have t6 := kp' g t6; have s7 := kp' g s7; have t7 := kp' g t7; have X3 := hide (X3.out.next g); have X6 := hide (X6.out.next g); have b8 := bl_trans b7 g; clear hb g)
    | (go_at_call 16; (with_reducible refine (QZ.out A7 B7 A8 B8 c7 d7 c8 d8 _ s7 t7 s8 t8).mono ?_); rintro e w9 ⟨rfl, hb⟩; have g := hb; have s3 := kp' g s3; have t3 := kp' g t3; have s6 := kp' g s6; have t6 := kp' g t6; have s7 := kp' g s7; have t7 := kp' g t7; have s8 := kp' g s8; have t8 := kp' g t8; have X3 := hide (X3.out.next g); have X6 := hide (X6.out.next g); have b9 := bl_trans b8 g; clear hb g)
    | (go_at_call 42; (with_reducible refine (O_q1.out _ (bl_al b9 _)).mono ?_); rintro e w10 ⟨A10, c10, B10, d10, rfl, s10, t10, hb⟩; have g := bl_one hb; have s3 := kp' g s3; have t3 := kp' g t3; have s6 := kp' g s6; have t6 := kp' g t6; have X3 := hide (X3.out.next g); have X6 := hide (X6.out.next g); have b10 := bl_trans b9 g; clear hb g)
    | (go_at_call 42; (with_reducible refine (O_q3.out _ b10).mono ?_); rintro e w11 ⟨A11, c11, B11, d11, rfl, s11, t11, hb⟩; have g := hb; have s3 := kp' g s3; have t3 := kp' g t3; have s6 := kp' g s6; have t6 := kp' g t6; have s10 := kp' g s10; have t10 := kp' g t10; have X3 := hide (X3.out.next g); have X6 := hide (X6.out.next g); have b11 := bl_trans b10 g; clear hb g)
    | (go_at_call 43; (with_reducible refine (BT1.out A10 B10 A11 B11 c10 d10 c11 d11 _ s10 t10 s11 t11).mono ?_); rintro e w12 ⟨A12, c12, B12, d12, rfl, s12, t12, hb⟩; have g := hb; have s3 := kp' g s3; have t3 := kp' g t3; have s6 := kp' g s6; have t6 := kp' g t6; have s10 := kp' g s10; have t10 := kp' g t10; have s11 := kp' g s11; have t11 := kp' g t11; have X3 := hide (X3.out.next g); have X6 := hide (X6.out.next g); have b12 := bl_trans b11 g; clear hb g)
    | (go_at_call 42; (with_reducible refine (O_q10.out _ (bl_al b12 _)).mono ?_); rintro e w13 ⟨A13, c13, B13, d13, rfl, s13, t13, hb⟩; have g := bl_one hb; have X12 := hide ((Q3.new (.bool (qs q9)) (.slice A12 (ln (qn q9)) c12) (.slice B12 (ln (qd q9)) d12) w12).next hb); have s3 := kp' g s3; have t3 := kp' g t3; have s6 := kp' g s6; have t6 := kp' g t6; have s12 := kp' g s12; have t12 := kp' g t12; have X3 := hide (X3.out.next g); have X6 := hide (X6.out.next g); have b13 := bl_trans b12 g; clear hb g)
    | (go_at_call 42; (with_reducible refine (O_q11.out _ b13).mono ?_); rintro e w14 ⟨A14, c14, B14, d14, rfl, s14, t14, hb⟩; have g := hb; have s3 := kp' g s3; have t3 := kp' g t3; have s6 := kp' g s6; have t6 := kp' g t6; have s12 := kp' g s12; have t12 := kp' g t12; have s13 := kp' g s13; have t13 := kp' g t13; have X3 := hide (X3.out.next g); have X6 := hide (X6.out.next g); have X12 := hide (X12.out.next g); have b14 := bl_trans b13 g; clear hb g)
    | (go_at_call 43; (with_reducible refine (BT2.out A13 B13 A14 B14 c13 d13 c14 d14 _ s13 t13 s14 t14).mono ?_); rintro e w15 ⟨A15, c15, B15, d15, rfl, s15, t15, hb⟩; have g := hb; have s3 := kp' g s3; have t3 := kp' g t3; have s6 := kp' g s6; have t6 := kp' g t6; have s12 := kp' g s12; have t12 := kp' g t12; have s13 := kp' g s13; have t13 := kp' g t13; have s14 := kp' g s14; have t14 := kp' g t14; have X3 := hide (X3.out.next g); have X6 := hide (X6.out.next g); have X12 := hide (X12.out.next g); have b15 := bl_trans b14 g; clear hb g)
    | (go_at_call 44; (with_reducible refine (PA.out _).mono ?_); rintro e w16 ⟨A16, c16, B16, d16, rfl, s16, t16, hb⟩; have g := bl_one hb; have X15 := hide ((Q3.new (.bool (qs q12)) (.slice A15 (ln (qn q12)) c15) (.slice B15 (ln (qd q12)) d15) w15).next hb); have s3 := kp' g s3; have t3 := kp' g t3; have s6 := kp' g s6; have t6 := kp' g t6; have s12 := kp' g s12; have t12 := kp' g t12; have s15 := kp' g s15; have t15 := kp' g t15; have X3 := hide (X3.out.next g); have X6 := hide (X6.out.next g); have X12 := hide (X12.out.next g); have b16 := bl_trans b15 g; clear hb g))
  have X16 : Hid (Q3 w16.heap.size (.bool (qs q6)) (.slice A16 (ln (qn q6)) c16) (.slice B16 (ln (qd q6)) d16) (w16.alloc (.cells #[.bool (qs q6), .slice A16 (ln (qn q6)) c16, .slice B16 (ln (qd q6)) d16] 24))) := hide (Q3.new _ _ _ _)
  have X3 := hide (X3.out.al (.cells #[.bool (qs q6), .slice A16 (ln (qn q6)) c16, .slice B16 (ln (qd q6)) d16] 24))
  have X6 := hide (X6.out.al (.cells #[.bool (qs q6), .slice A16 (ln (qn q6)) c16, .slice B16 (ln (qd q6)) d16] 24))
  have X12 := hide (X12.out.al (.cells #[.bool (qs q6), .slice A16 (ln (qn q6)) c16, .slice B16 (ln (qd q6)) d16] 24))
  have X15 := hide (X15.out.al (.cells #[.bool (qs q6), .slice A16 (ln (qn q6)) c16, .slice B16 (ln (qd q6)) d16] 24))
  have kz : Hid (K5 w [(A3, qn q3), (B3, qd q3), (A6, qn q6), (B6, qd q6), (A12, qn q9), (B12, qd q9), (A15, qn q12), (B15, qd q12), (A16, qn q6), (B16, qd q6)] (w16.alloc (.cells #[.bool (qs q6), .slice A16 (ln (qn q6)) c16, .slice B16 (ln (qd q6)) d16] 24))) := hide (K5.cons (K5.cons (K5.cons (K5.cons (K5.cons (K5.cons (K5.cons (K5.cons (K5.cons (K5.cons (K5.nil (bl_al b16 (.cells #[.bool (qs q6), .slice A16 (ln (qn q6)) c16, .slice B16 (ln (qd q6)) d16] 24))) (t16.alloc (.cells #[.bool (qs q6), .slice A16 (ln (qn q6)) c16, .slice B16 (ln (qd q6)) d16] 24))) (s16.alloc (.cells #[.bool (qs q6), .slice A16 (ln (qn q6)) c16, .slice B16 (ln (qd q6)) d16] 24))) (t15.alloc (.cells #[.bool (qs q6), .slice A16 (ln (qn q6)) c16, .slice B16 (ln (qd q6)) d16] 24))) (s15.alloc (.cells #[.bool (qs q6), .slice A16 (ln (qn q6)) c16, .slice B16 (ln (qd q6)) d16] 24))) (t12.alloc (.cells #[.bool (qs q6), .slice A16 (ln (qn q6)) c16, .slice B16 (ln (qd q6)) d16] 24))) (s12.alloc (.cells #[.bool (qs q6), .slice A16 (ln (qn q6)) c16, .slice B16 (ln (qd q6)) d16] 24))) (t6.alloc (.cells #[.bool (qs q6), .slice A16 (ln (qn q6)) c16, .slice B16 (ln (qd q6)) d16] 24))) (s6.alloc (.cells #[.bool (qs q6), .slice A16 (ln (qn q6)) c16, .slice B16 (ln (qd q6)) d16] 24))) (t3.alloc (.cells #[.bool (qs q6), .slice A16 (ln (qn q6)) c16, .slice B16 (ln (qd q6)) d16] 24))) (s3.alloc (.cells #[.bool (qs q6), .slice A16 (ln (qn q6)) c16, .slice B16 (ln (qd q6)) d16] 24)))
  clear b1 b2 b3 b4 b5 b6 b7 b8 b9 b10 b11 b12 b13 b14 b15 b16 s3 t3 s6 t6 s12 t12 s15 t15 s16 t16
  (try dsimp only [List.append])
  go_region_held3 (fun W => W.cell? ⟨w3.heap.size, 0, none⟩ = some (.bool (qs q3)) ∧ W.cell? ⟨w3.heap.size, 1, none⟩ = some (.slice A3 (ln (qn q3)) c3) ∧ W.cell? ⟨w3.heap.size, 2, none⟩ = some (.slice B3 (ln (qd q3)) d3) ∧ W.cell? ⟨w6.heap.size, 0, none⟩ = some (.bool (qs q6)) ∧ W.cell? ⟨w6.heap.size, 1, none⟩ = some (.slice A6 (ln (qn q6)) c6) ∧ W.cell? ⟨w6.heap.size, 2, none⟩ = some (.slice B6 (ln (qd q6)) d6) ∧ W.cell? ⟨w12.heap.size, 0, none⟩ = some (.bool (qs q9)) ∧ W.cell? ⟨w12.heap.size, 1, none⟩ = some (.slice A12 (ln (qn q9)) c12) ∧ W.cell? ⟨w12.heap.size, 2, none⟩ = some (.slice B12 (ln (qd q9)) d12) ∧ W.cell? ⟨w15.heap.size, 0, none⟩ = some (.bool (qs q12)) ∧ W.cell? ⟨w15.heap.size, 1, none⟩ = some (.slice A15 (ln (qn q12)) c15) ∧ W.cell? ⟨w15.heap.size, 2, none⟩ = some (.slice B15 (ln (qd q12)) d15) ∧ W.cell? ⟨w16.heap.size, 0, none⟩ = some (.bool (qs q6)) ∧ W.cell? ⟨w16.heap.size, 1, none⟩ = some (.slice A16 (ln (qn q6)) c16) ∧ W.cell? ⟨w16.heap.size, 2, none⟩ = some (.slice B16 (ln (qd q6)) d16) ∧ K5 w [(A3, qn q3), (B3, qd q3), (A6, qn q6), (B6, qd q6), (A12, qn q9), (B12, qd q9), (A15, qn q12), (B15, qd q12), (A16, qn q6), (B16, qd q6)] W)
    (first | exact ⟨X3.out.1, X3.out.2.1, X3.out.2.2.1, X6.out.1, X6.out.2.1, X6.out.2.2.1, X12.out.1, X12.out.2.1, X12.out.2.2.1, X15.out.1, X15.out.2.1, X15.out.2.2.1, X16.out.1, X16.out.2.1, X16.out.2.2.1, kz.out.drew⟩ | exact S15_next hb (by assumption) | assumption)
    (first
      | (go_at_call 42; (with_reducible refine (O_q3.out _ (K5.b (k15 (by assumption)))).mono ?_); rintro e v1 ⟨P1, p1, Q1, g1, rfl, y1, z1, hb⟩; (try have y8 := kp' hb y8; have z8 := kp' hb z8))
      | (go_at_call 18; (with_reducible refine (SM3.out A3 B3 P1 Q1 c3 d3 p1 g1 _ (K5.sl (k15 (by assumption)) mem1) (K5.sl (k15 (by assumption)) mem2) y1 z1).mono ?_); rintro e v2 ⟨rfl, hb⟩)
      | (go_at_call 45; (with_reducible refine (T6.out A6 B6 c6 d6 _ (K5.sl (k15 (by assumption)) mem3) (K5.sl (k15 (by assumption)) mem4) (K5.b (k15 (by assumption)))).mono ?_); rintro e v3 ⟨rfl, hb⟩)
      | (go_at_call 45; (with_reducible refine (T9.out A12 B12 c12 d12 _ (K5.sl (k15 (by assumption)) mem5) (K5.sl (k15 (by assumption)) mem6) (K5.b (k15 (by assumption)))).mono ?_); rintro e v4 ⟨rfl, hb⟩)
      | (go_at_call 45; (with_reducible refine (T12.out A15 B15 c15 d15 _ (K5.sl (k15 (by assumption)) mem7) (K5.sl (k15 (by assumption)) mem8) (K5.b (k15 (by assumption)))).mono ?_); rintro e v5 ⟨rfl, hb⟩)
      | (go_at_call 42; (with_reducible refine (O_q6.out _ (K5.b (k15 (by assumption)))).mono ?_); rintro e v6 ⟨P6, p6, Q6, g6, rfl, y6, z6, hb⟩)
      | (go_at_call 18; (with_reducible refine (SM6.out A16 B16 P6 Q6 c16 d16 p6 g6 _ (K5.sl (k15 (by assumption)) mem9) (K5.sl (k15 (by assumption)) mem10) y6 z6).mono ?_); rintro e v7 ⟨rfl, hb⟩)
      | (go_at_call 42; (with_reducible refine (O_q1.out _ (K5.b (k15 (by assumption)))).mono ?_); rintro e v8 ⟨P8, p8, Q8, g8, rfl, y8, z8, hb⟩)
      | (go_at_call 19; (with_reducible refine (CM.out P8 Q8 P1 Q1 p8 g8 p1 g1 _ y8 z8 y1 z1).mono ?_); rintro e v9 ⟨rfl, hb⟩)
      | (go_at_call 23; (with_reducible refine (NG.out A3 B3 c3 d3 _ (K5.sl (k15 (by assumption)) mem1) (K5.sl (k15 (by assumption)) mem2)).mono ?_); rintro e v10 ⟨P10, p10, Q10, g10, rfl, y10, z10, hb⟩)
      | (go_at_call 21; (with_reducible refine (SN.out P10 Q10 p10 g10 _ y10 z10).mono ?_); rintro e v11 ⟨rfl, hb⟩)
      | (go_at_call 42; (with_reducible refine (O_q11.out _ (K5.b (k15 (by assumption)))).mono ?_); rintro e v12 ⟨P12, p12, Q12, g12, rfl, y12, z12, hb⟩)
      | (go_at_call 46; (with_reducible refine (FL.out P12 Q12 p12 g12 _ y12 z12).mono ?_); rintro e v13 ⟨P13, p13, rfl, y13, hb⟩)
      | (go_at_call 39; (with_reducible refine (RI.out _).mono ?_); rintro e v14 ⟨P14, p14, rfl, y14, hb⟩; have y13 := kp' hb y13)
      | (go_at_call 41; (with_reducible refine (SI.out P13 P14 p13 p14 _ y13 y14).mono ?_); rintro e v15 ⟨rfl, hb⟩)
      | (go_at_call 42; (with_reducible refine (of_zero 5 _).mono ?_); rintro e v16 ⟨P16, p16, Q16, g16, rfl, y16, z16, hb⟩)
      | (go_at_call 25; (with_reducible refine (VA.out P16 Q16 p16 g16 _ y16 z16).mono ?_); rintro e v17 ⟨rfl, hb⟩)
      | (go_at_call 25; (with_reducible refine (valid_none _).mono ?_); rintro e v18 ⟨rfl, hb⟩))
  all_goals
    go_wp2
    go_ret
    exact ⟨rfl, K5.b (k15 (by assumption))⟩
end Nt

end Go.Proofs.YtboppbidldomhaaGreatDoor
