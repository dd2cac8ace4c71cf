
/-
  The reference's fractions: addRat.
  The reference's fractions: Add.
  The reference's fractions: Neg, Sub.
  The reference's fractions: Sub, Quo by 0.
  What ours and the reference's calls say of any two: the same.
-/
import Derived.Test.YtgimmmmpollkhaaGreatNRefQ
namespace Go.Proofs.YtgimmmmpollkhaaGreat

open Go.RowKit

namespace Nt

theorem add_mkRat (q r : Rat) : qmk (isg (q.num * (qd r : Int) + r.num * (qd q : Int))) (q.num * (qd r : Int) + r.num * (qd q : Int)).natAbs (qd q * qd r) = q + r := by
  unfold qmk
  rw [sgz_mk, Rat.add_def']
  rfl
theorem num_part (q : Rat) (d : Nat) : (q.num * (d : Int)).natAbs = qn q * d := by rw [Int.natAbs_mul]; rfl
theorem isg_part (q : Rat) {d : Nat} (_hd : 0 < d) : (qs q && decide (0 < ln (qn q * d))) = isg (q.num * (d : Int)) := by
  rw [← dec_ln, ← sgz_isg, num_sgz q, show ((d : Nat) : Int) = sgz false d from rfl, sgz_mul, Bool.bne_false]
theorem q3_apart2 {g h : Nat} {u v x : Value} {w : World} (k : Q3 h u v x w) (hne : h ≠ g) (a b : Value) : Q3 h u v x ((w.setCell ⟨g, 0, none⟩ a).setCell ⟨g, 1, none⟩ b) := by
  have ne : ∀ i j : Nat, (⟨g, i, none⟩ : Addr) ≠ ⟨h, j, none⟩ := by
    intro i j e
    injection e with e1 _ _
    exact hne e1.symm
  refine ⟨?_, ?_, ?_, ?_, ?_, ?_⟩
  · rw [World.cell?_setCell_other _ _ _ _ (ne _ _), World.cell?_setCell_other _ _ _ _ (ne _ _)]; exact k.1
  · rw [World.cell?_setCell_other _ _ _ _ (ne _ _), World.cell?_setCell_other _ _ _ _ (ne _ _)]; exact k.2.1
  · rw [World.cell?_setCell_other _ _ _ _ (ne _ _), World.cell?_setCell_other _ _ _ _ (ne _ _)]; exact k.2.2.1
  · rw [World.frozen?_setCell, World.frozen?_setCell]; exact k.2.2.2.1
  · rw [World.frozen?_setCell, World.frozen?_setCell]; exact k.2.2.2.2.1
  · rw [World.frozen?_setCell, World.frozen?_setCell]; exact k.2.2.2.2.2
def UA0 (w : World) (g1 g2 g3 : Nat) (u1 v1 x1 u2 v2 x2 u3 v3 x3 : Value) (A : Option Addr) (n : Nat) (V : World) : Prop := Below w.heap.size w V ∧ Q3 g1 u1 v1 x1 V ∧ Q3 g2 u2 v2 x2 V ∧ Q3 g3 u3 v3 x3 V ∧ Sl V A (digs n)
def UA (w : World) (g1 g2 g3 : Nat) (u1 v1 x1 u2 v2 x2 u3 v3 x3 : Value) (A : Option Addr) (n : Nat) (u v : Value) (g : Nat) (V : World) : Prop := UA0 w g1 g2 g3 u1 v1 x1 u2 v2 x2 u3 v3 x3 A n V ∧ Q2 g u v V ∧ g1 < g ∧ g2 < g ∧ g3 < g ∧ ∃ G, G = g
theorem ua_new {w V : World} {g1 g2 g3 : Nat} {u1 v1 x1 u2 v2 x2 u3 v3 x3 u v : Value} {A : Option Addr} {n : Nat} (f : UA0 w g1 g2 g3 u1 v1 x1 u2 v2 x2 u3 v3 x3 A n V) :
    UA w g1 g2 g3 u1 v1 x1 u2 v2 x2 u3 v3 x3 A n u v V.heap.size (V.alloc (.cells #[u, v] 104)) :=
  ⟨⟨bl_al f.1 _, f.2.1.al _, f.2.2.1.al _, f.2.2.2.1.al _, f.2.2.2.2.alloc _⟩, Q2.new _ _ _, f.2.1.lt, f.2.2.1.lt, f.2.2.2.1.lt, ⟨_, rfl⟩⟩
theorem ua_set {w V : World} {g1 g2 g3 g : Nat} {u1 v1 x1 u2 v2 x2 u3 v3 x3 u v : Value} {A : Option Addr} {n : Nat} (f : UA0 w g1 g2 g3 u1 v1 x1 u2 v2 x2 u3 v3 x3 A n V) (h : Q2 g (.bool false) (.slice none 0 0) V) (h0 : w.heap.size ≤ g) (h1 : g1 < g) (h2 : g2 < g) (h3 : g3 < g) :
    UA w g1 g2 g3 u1 v1 x1 u2 v2 x2 u3 v3 x3 A n u v g ((V.setCell ⟨g, 0, none⟩ u).setCell ⟨g, 1, none⟩ v) :=
  ⟨⟨Below.store2 f.1 h0 _ _, q3_apart2 f.2.1 (by omega) _ _, q3_apart2 f.2.2.1 (by omega) _ _, q3_apart2 f.2.2.2.1 (by omega) _ _, f.2.2.2.2.store2 h.1 h.2.1 _ _⟩, q2_set h, h1, h2, h3, ⟨_, rfl⟩⟩
theorem T6_set2 {w : World} {g h k : Nat} {v1 v2 v3 v4 v5 v6 a b : Value} (n1 : h ≠ g) (n2 : k ≠ g)
    (x : w.cell? ⟨h, 0, none⟩ = some v1 ∧ w.cell? ⟨h, 1, none⟩ = some v2 ∧ w.cell? ⟨h, 2, none⟩ = some v3 ∧ w.cell? ⟨k, 0, none⟩ = some v4 ∧ w.cell? ⟨k, 1, none⟩ = some v5 ∧ w.cell? ⟨k, 2, none⟩ = some v6) :
    ((w.setCell ⟨g, 0, none⟩ a).setCell ⟨g, 1, none⟩ b).cell? ⟨h, 0, none⟩ = some v1 ∧ ((w.setCell ⟨g, 0, none⟩ a).setCell ⟨g, 1, none⟩ b).cell? ⟨h, 1, none⟩ = some v2 ∧ ((w.setCell ⟨g, 0, none⟩ a).setCell ⟨g, 1, none⟩ b).cell? ⟨h, 2, none⟩ = some v3 ∧ ((w.setCell ⟨g, 0, none⟩ a).setCell ⟨g, 1, none⟩ b).cell? ⟨k, 0, none⟩ = some v4 ∧ ((w.setCell ⟨g, 0, none⟩ a).setCell ⟨g, 1, none⟩ b).cell? ⟨k, 1, none⟩ = some v5 ∧ ((w.setCell ⟨g, 0, none⟩ a).setCell ⟨g, 1, none⟩ b).cell? ⟨k, 2, none⟩ = some v6 := by
  have ne : ∀ {h : Nat}, h ≠ g → ∀ i j : Nat, (⟨g, i, none⟩ : Addr) ≠ ⟨h, j, none⟩ := by
    intro h hne i j e
    injection e with e1 _ _
    exact hne e1.symm
  refine ⟨?_, ?_, ?_, ?_, ?_, ?_⟩
  · rw [World.cell?_setCell_other _ _ _ _ (ne n1 _ _), World.cell?_setCell_other _ _ _ _ (ne n1 _ _)]; exact x.1
  · rw [World.cell?_setCell_other _ _ _ _ (ne n1 _ _), World.cell?_setCell_other _ _ _ _ (ne n1 _ _)]; exact x.2.1
  · rw [World.cell?_setCell_other _ _ _ _ (ne n1 _ _), World.cell?_setCell_other _ _ _ _ (ne n1 _ _)]; exact x.2.2.1
  · rw [World.cell?_setCell_other _ _ _ _ (ne n2 _ _), World.cell?_setCell_other _ _ _ _ (ne n2 _ _)]; exact x.2.2.2.1
  · rw [World.cell?_setCell_other _ _ _ _ (ne n2 _ _), World.cell?_setCell_other _ _ _ _ (ne n2 _ _)]; exact x.2.2.2.2.1
  · rw [World.cell?_setCell_other _ _ _ _ (ne n2 _ _), World.cell?_setCell_other _ _ _ _ (ne n2 _ _)]; exact x.2.2.2.2.2
theorem q3_six {g h : Nat} {u v x u' v' x' : Value} {w : World} (a : Q3 g u v x w) (b : Q3 h u' v' x' w) : w.cell? ⟨g, 0, none⟩ = some u ∧ w.cell? ⟨g, 1, none⟩ = some v ∧ w.cell? ⟨g, 2, none⟩ = some x ∧ w.cell? ⟨h, 0, none⟩ = some u' ∧ w.cell? ⟨h, 1, none⟩ = some v' ∧ w.cell? ⟨h, 2, none⟩ = some x' := ⟨a.1, a.2.1, a.2.2.1, b.1, b.2.1, b.2.2.1⟩
theorem S4q_next {w w' : World} (hb : Below w.heap.size w w') {p1 p2 p3 p4 : Addr} {v1 v2 v3 v4 : Value} (h : w.cell? p1 = some v1 ∧ w.cell? p2 = some v2 ∧ w.cell? p3 = some v3 ∧ w.cell? p4 = some v4) :
    w'.cell? p1 = some v1 ∧ w'.cell? p2 = some v2 ∧ w'.cell? p3 = some v3 ∧ w'.cell? p4 = some v4 := ⟨cell_next hb h.1, cell_next hb h.2.1, cell_next hb h.2.2.1, cell_next hb h.2.2.2⟩
theorem S4q_over {w : World} {g e h k : Nat} {v1 v2 v3 v4 a b c : Value} (n1 : e ≠ g) (n2 : h ≠ g) (n3 : k ≠ g) (x : w.cell? ⟨e, 0, none⟩ = some v1 ∧ w.cell? ⟨e, 1, none⟩ = some v2 ∧ w.cell? ⟨h, 2, none⟩ = some v3 ∧ w.cell? ⟨k, 2, none⟩ = some v4) :
    (((w.setCell ⟨g, 0, none⟩ a).setCell ⟨g, 1, none⟩ b).setCell ⟨g, 2, none⟩ c).cell? ⟨e, 0, none⟩ = some v1 ∧ (((w.setCell ⟨g, 0, none⟩ a).setCell ⟨g, 1, none⟩ b).setCell ⟨g, 2, none⟩ c).cell? ⟨e, 1, none⟩ = some v2 ∧ (((w.setCell ⟨g, 0, none⟩ a).setCell ⟨g, 1, none⟩ b).setCell ⟨g, 2, none⟩ c).cell? ⟨h, 2, none⟩ = some v3 ∧ (((w.setCell ⟨g, 0, none⟩ a).setCell ⟨g, 1, none⟩ b).setCell ⟨g, 2, none⟩ c).cell? ⟨k, 2, none⟩ = some v4 :=
  ⟨cell_over3 x.1 n1 a b c, cell_over3 x.2.1 n1 a b c, cell_over3 x.2.2.1 n2 a b c, cell_over3 x.2.2.2 n3 a b c⟩

set_option maxRecDepth 100000 in
set_option maxHeartbeats 8000000 in
theorem raddRat_q (q r Z : Rat) (hZ : q + r = Z) (A B C D : Option Addr) (a b c d : Nat) (w : World) (sA : Sl w A (digs (qn q))) (sB : Sl w B (digs (qd q))) (sC : Sl w C (digs (qn r))) (sD : Sl w D (digs (qd r))) (f1 : fitq q) (f2 : fitq r) :
    Calls Tryz.prog 116 #[.agg #[.bool (qs q), .slice A (ln (qn q)) a, .slice B (ln (qd q)) b], .agg #[.bool (qs r), .slice C (ln (qn r)) c, .slice D (ln (qd r)) d]] w (RQ w Z) := by
  obtain ⟨u, hu⟩ : ∃ u, qn q * qd r = u := ⟨_, rfl⟩
  obtain ⟨v, hv⟩ : ∃ v, qn r * qd q = v := ⟨_, rfl⟩
  obtain ⟨p, hp⟩ : ∃ v, qd q * qd r = v := ⟨_, rfl⟩
  have ul : ln u ≤ 128 := by rw [← hu]; exact ln_mul2 f1.1 f2.2
  have vl : ln v ≤ 128 := by rw [← hv]; exact ln_mul2 f2.1 f1.2
  have pl : ln p ≤ 128 := by rw [← hp]; exact ln_mul2 f1.2 f2.2
  have pp : 0 < p := by rw [← hp]; exact Nat.mul_pos (qd_pos q) (qd_pos r)
  have M1 := hide (fun W (h : Below w.heap.size w W) => rmul_z A D a d (qn q) (qd r) u W (kp' h sA) (kp' h sD) (Nat.le_trans f1.1 (by decide)) (Nat.le_trans f2.2 (by decide)) hu)
  have M2 := hide (fun W (h : Below w.heap.size w W) => rmul_z C B c b (qn r) (qd q) v W (kp' h sC) (kp' h sB) (Nat.le_trans f2.1 (by decide)) (Nat.le_trans f1.2 (by decide)) hv)
  have M3 := hide (fun W (h : Below w.heap.size w W) => rmul_z B D b d (qd q) (qd r) p W (kp' h sB) (kp' h sD) (Nat.le_trans f1.2 (by decide)) (Nat.le_trans f2.2 (by decide)) hp)
  obtain ⟨x, hx⟩ : ∃ x, q.num * (qd r : Int) = x := ⟨_, rfl⟩
  obtain ⟨y, hy⟩ : ∃ x, r.num * (qd q : Int) = x := ⟨_, rfl⟩
  have hq := add_mkRat q r
  rw [hx, hy, hp, hZ] at hq
  have xa : x.natAbs = u := by rw [← hx, num_part]; exact hu
  have ya : y.natAbs = v := by rw [← hy, num_part]; exact hv
  have W1 := hide (fun X e W => rwhole_any (qs q) X (ln u) e W (by omega))
  have W2 := hide (fun X e W => rwhole_any (qs r) X (ln v) e W (by omega))
  rw [← hu, isg_part q (qd_pos r), hx, hu] at W1
  rw [← hv, isg_part r (qd_pos q), hy, hv] at W2
  have AI := hide (fun X Y e f W (sx : Sl W X (digs u)) (sy : Sl W Y (digs v)) => raddS_num X Y (ln u) (ln v) e f x y W (by show (digs x.natAbs).length = _; rw [xa]; rfl) (by show (digs y.natAbs).length = _; rw [ya]; rfl) (by show Sl W X (digs x.natAbs); rw [xa]; exact sx) (by show Sl W Y (digs y.natAbs); rw [ya]; exact sy) (by show (digs x.natAbs).length ≤ _; rw [xa]; exact Nat.le_trans ul (by decide)) (by show (digs y.natAbs).length ≤ _; rw [ya]; exact Nat.le_trans vl (by decide)))
  have nl : ln (x + y).natAbs ≤ 129 := add_lenI (k := 128) (by show (digs x.natAbs).length ≤ _; rw [xa]; exact ul) (by show (digs y.natAbs).length ≤ _; rw [ya]; exact vl)
  obtain ⟨n, hn⟩ : ∃ n, (x + y).natAbs = n := ⟨_, rfl⟩
  obtain ⟨sz, hsz⟩ : ∃ z, isg (x + y) = z := ⟨_, rfl⟩
  rw [hsz, hn] at hq
  rw [hn] at nl
  have AI : Hid (∀ X Y e f W, Sl W X (digs u) → Sl W Y (digs v) → Calls Tryz.prog 139 #[.agg #[.bool (isg x), .slice X (ln u) e], .agg #[.bool (isg y), .slice Y (ln v) f]] W fun e w' => ∃ A c, e = .returned (.agg #[.bool sz, .slice A (ln n) c]) ∧ Sl w' A (digs n) ∧ Below W.heap.size W w') := fun X Y e f W sx sy => (AI.out X Y e f W sx sy).mono fun e w' h => by
    obtain ⟨A, c, he, s1, b1⟩ := h
    refine ⟨A, c, ?_, ?_, b1⟩
    · rw [he, ← hsz, ← hn]; rfl
    · rw [← hn]; exact s1
  have MD := hide (fun X Y e f W (sx : Sl W X (digs n)) (sy : Sl W Y (digs p)) => rmade_q sz X Y e f n p Z W sx sy (by omega) (by omega) pp hq)
  clear sA sB sC sD f1 f2 hZ hu hv hp ul vl pl pp hq xa ya hx hy nl hn hsz
  generalize isg x = sx at *
  generalize isg y = sy at *
  generalize qs q = s at *
  generalize qs r = t at *
  generalize ln (qn q) = i1 at *
  generalize ln (qd q) = i2 at *
  generalize ln (qn r) = i3 at *
  generalize ln (qd r) = i4 at *
  have X1 := hide (((Q3.new (.bool s) (.slice A i1 a) (.slice B i2 b) w).al (.cells #[.bool t, .slice C i3 c, .slice D i4 d] 25)).al (.cells #[.bool false, .slice none 0 0, .slice none 0 0] 25))
  have X2 := hide ((Q3.new1 (.bool t) (.slice C i3 c) (.slice D i4 d) w (.cells #[.bool s, .slice A i1 a, .slice B i2 b] 25)).al (.cells #[.bool false, .slice none 0 0, .slice none 0 0] 25))
  have X3 := hide (Q3.new2 (.bool false) (.slice none 0 0) (.slice none 0 0) w (.cells #[.bool s, .slice A i1 a, .slice B i2 b] 25) (.cells #[.bool t, .slice C i3 c, .slice D i4 d] 25))
  have b0 : Below w.heap.size w (((w.alloc (.cells #[.bool s, .slice A i1 a, .slice B i2 b] 25)).alloc (.cells #[.bool t, .slice C i3 c, .slice D i4 d] 25)).alloc (.cells #[.bool false, .slice none 0 0, .slice none 0 0] 25)) := bl_al (bl_al (bl_al (.refl _ _) _) _) _
  obtain ⟨x1, x2, x3, x4, x5, x6⟩ := X1.out
  obtain ⟨y1, y2, y3, y4, y5, y6⟩ := X2.out
  go_enter Tryz.func116, Tryz.ntmps116
  go_wp2
  generalize ((w.alloc (.cells #[.bool s, .slice A i1 a, .slice B i2 b] 25)).alloc (.cells #[.bool t, .slice C i3 c, .slice D i4 d] 25)).alloc (.cells #[.bool false, .slice none 0 0, .slice none 0 0] 25) = w20 at *
  have kb := hide b0
  have ka : Hid (Below w.heap.size w (w20.alloc (.cells #[.bool false, .slice none 0 0] 104)).drew) := hide (bl_al kb.out (.cells #[.bool false, .slice none 0 0] 104)).drew
  have X1 := hide X1.out.drew
  have X2 := hide X2.out.drew
  have X3 := hide X3.out.drew
  have kb := hide kb.out.drew
  have l20 := X3.out.lt
  have l20 : w.heap.size + 1 + 1 < w20.heap.size := l20
  clear b0
  go_region_held3 (fun W => W.cell? ⟨w.heap.size, 0, none⟩ = some (.bool s) ∧ W.cell? ⟨w.heap.size, 1, none⟩ = some (.slice A i1 a) ∧ W.cell? ⟨w.heap.size, 2, none⟩ = some (.slice B i2 b) ∧ W.cell? ⟨w.heap.size + 1, 0, none⟩ = some (.bool t) ∧ W.cell? ⟨w.heap.size + 1, 1, none⟩ = some (.slice C i3 c) ∧ W.cell? ⟨w.heap.size + 1, 2, none⟩ = some (.slice D i4 d))
    (first | exact ⟨x1, x2, x3, y1, y2, y3⟩ | with_reducible exact q3_six X1.out X2.out | with_reducible exact T6c_next hb (by assumption) | with_reducible exact T6c_next (bl_al (.refl _ _) _) (by assumption) | with_reducible exact q3_six (X1.out.al _) (X2.out.al _) | with_reducible exact T6_set2 (by omega) (by omega) (by assumption) | with_reducible assumption | exact T6c_next (bl_al (.refl _ _) _) (by assumption))
    (first
      | (go_at_call 104; (with_reducible refine (M1.out _ (by first | exact kb.out | exact ka.out)).mono ?_); rintro e v1 ⟨P1, e1, rfl, z1, hb⟩; (first | (have X1 := hide (X1.out.next hb); have X2 := hide (X2.out.next hb); have X3 := hide (X3.out.next hb); have kb := hide (bl_trans kb.out hb); (try have Pa := hide (Pa.out.next hb))) | (have hb := (show Below (w20.drew.alloc (.cells #[.bool false, .slice none 0 0] 104)).heap.size (w20.drew.alloc (.cells #[.bool false, .slice none 0 0] 104)) v1 from hb); have h1 := bl_one hb; have X1 := hide (X1.out.next h1); have X2 := hide (X2.out.next h1); have X3 := hide (X3.out.next h1); have kb := hide (bl_trans kb.out h1); have Pa : Hid (Q2 w20.heap.size (.bool false) (.slice none 0 0) v1) := hide ((Q2.new (.bool false) (.slice none 0 0) w20.drew).next hb); clear h1)); have lx1 := X3.out.lt; (try have lp1 := Pa.out.lt); have zs1 := Below.size hb; (try rw [size1] at zs1))
      | (go_at_call 121; (with_reducible refine (W1.out P1 e1 _).mono ?_); rintro e v2 ⟨rfl, hb⟩; (first | (have X1 := hide (X1.out.next hb); have X2 := hide (X2.out.next hb); have X3 := hide (X3.out.next hb); have kb := hide (bl_trans kb.out hb); have z1 := kp' hb z1; (try have Pa := hide (Pa.out.next hb))) | (have h1 := bl_one hb; have X1 := hide (X1.out.next h1); have X2 := hide (X2.out.next h1); have X3 := hide (X3.out.next h1); have kb := hide (bl_trans kb.out h1); have z1 := kp' h1 z1; have Pa := hide ((Q2.new (.bool false) (.slice none 0 0) v1).next hb); clear h1)); have lx2 := X3.out.lt; (try have lp2 := Pa.out.lt); have zs2 := Below.size hb; (try rw [size1] at zs2))
      | (go_at_call 104; (with_reducible refine (M2.out _ (by first | exact kb.out | exact bl_al kb.out _)).mono ?_); rintro e v3 ⟨P3, e3, rfl, z3, hb⟩; (first | (have X1 := hide (X1.out.next hb); have X2 := hide (X2.out.next hb); have X3 := hide (X3.out.next hb); have kb := hide (bl_trans kb.out hb); have z1 := kp' hb z1; (try have Pa := hide (Pa.out.next hb))) | (have h1 := bl_one hb; have X1 := hide (X1.out.next h1); have X2 := hide (X2.out.next h1); have X3 := hide (X3.out.next h1); have kb := hide (bl_trans kb.out h1); have z1 := kp' h1 z1; have Pa := hide ((Q2.new (.bool false) (.slice none 0 0) v2).next hb); clear h1)); have lx3 := X3.out.lt; (try have lp3 := Pa.out.lt); have zs3 := Below.size hb; (try rw [size1] at zs3))
      | (go_at_call 121; (with_reducible refine (W2.out P3 e3 _).mono ?_); rintro e v4 ⟨rfl, hb⟩; (first | (have X1 := hide (X1.out.next hb); have X2 := hide (X2.out.next hb); have X3 := hide (X3.out.next hb); have kb := hide (bl_trans kb.out hb); have z1 := kp' hb z1; have z3 := kp' hb z3; (try have Pa := hide (Pa.out.next hb))) | (have h1 := bl_one hb; have X1 := hide (X1.out.next h1); have X2 := hide (X2.out.next h1); have X3 := hide (X3.out.next h1); have kb := hide (bl_trans kb.out h1); have z1 := kp' h1 z1; have z3 := kp' h1 z3; have Pa := hide ((Q2.new (.bool false) (.slice none 0 0) v3).next hb); clear h1)); have lx4 := X3.out.lt; (try have lp4 := Pa.out.lt); have zs4 := Below.size hb; (try rw [size1] at zs4))
      | (go_at_call 139; (with_reducible refine (AI.out P1 P3 e1 e3 _ (by first | exact z1 | exact z1.alloc _) (by first | exact z3 | exact z3.alloc _)).mono ?_); rintro e v5 ⟨S5, e5, rfl, z5, hb⟩; (first | (have X1 := hide (X1.out.next hb); have X2 := hide (X2.out.next hb); have X3 := hide (X3.out.next hb); have kb := hide (bl_trans kb.out hb); (try have Pa := hide (Pa.out.next hb))) | (have h1 := bl_one hb; have X1 := hide (X1.out.next h1); have X2 := hide (X2.out.next h1); have X3 := hide (X3.out.next h1); have kb := hide (bl_trans kb.out h1); have Pa := hide ((Q2.new (.bool false) (.slice none 0 0) v4).next hb); clear h1)); have lx5 := X3.out.lt; (try have lp5 := Pa.out.lt); have zs5 := Below.size hb; (try rw [size1] at zs5); (try (obtain ⟨pa1, pa2, pa3, pa4⟩ := Pa.out))))
  all_goals
    have f0 : UA0 w w.heap.size (w.heap.size + 1) (w.heap.size + 1 + 1) (.bool s) (.slice A i1 a) (.slice B i2 b) (.bool t) (.slice C i3 c) (.slice D i4 d) (.bool false) (.slice none 0 0) (.slice none 0 0) S5 n v5 := ⟨kb.out, X1.out, X2.out, X3.out, z5⟩
    refine then_fin (Fn := UA w w.heap.size (w.heap.size + 1) (w.heap.size + 1 + 1) (.bool s) (.slice A i1 a) (.slice B i2 b) (.bool t) (.slice C i3 c) (.slice D i4 d) (.bool false) (.slice none 0 0) (.slice none 0 0) S5 n (.bool sz) (.slice S5 (ln n) e5) _) (by
      first
        | with_reducible exact ua_new f0
        | with_reducible exact ua_set f0 Pa.out (by omega) (by omega) (by omega) (by omega)) ?_
    clear f0 z5 X1 X2 X3 kb
    rintro V ⟨⟨b9, X1, X2, X3, s9⟩, Y, l1, l2, l3, G, hG⟩
    rw [← hG] at Y l1 l2 l3 ⊢
    clear hG
    have X3 := hide X3
    have k1 := X1.2.2.1
    have k2 := X2.2.2.1
    have k3 := Y.1
    have k4 := Y.2.1
    have kb := hide b9.drew
    have X3 := hide X3.out.drew
    have s9 : Sl V.drew S5 (digs n) := s9
    clear X1 X2 Y
    go_wp2
    go_region_held3 (fun W => W.cell? ⟨G, 0, none⟩ = some (.bool sz) ∧ W.cell? ⟨G, 1, none⟩ = some (.slice S5 (ln n) e5) ∧ W.cell? ⟨w.heap.size, 2, none⟩ = some (.slice B i2 b) ∧ W.cell? ⟨w.heap.size + 1, 2, none⟩ = some (.slice D i4 d))
      (first | exact ⟨k3, k4, k1, k2⟩ | with_reducible exact S4q_next hb (by assumption) | with_reducible exact S4q_over (by omega) (by omega) (by omega) (by assumption) | with_reducible assumption)
      (first
        | (go_at_call 104; (with_reducible refine (M3.out _ kb.out).mono ?_); rintro e v7 ⟨P7, e7, rfl, z7, hb⟩; have X3 := hide (X3.out.next hb); have kb := hide (bl_trans kb.out hb); have s9 := kp' hb s9)
        | (go_at_call 103; (with_reducible refine (MD.out S5 P7 e5 e7 _ s9 z7).mono ?_); rintro e v8 ⟨A8, c8, B8, d8, rfl, s8, t8, hb⟩; have X3 := hide (X3.out.next hb); have kb := hide (bl_trans kb.out hb); obtain ⟨r1, r2, r3, r4, r5, r6⟩ := X3.out))
    all_goals
      go_wp2
      exact bodyPost_ret (v := .agg #[.bool (qs Z), .slice A8 (ln (qn Z)) c8, .slice B8 (ln (qd Z)) d8]) (by simp [results, Tryz.results116, go_sem, r1, r2, r3]) rfl (RQ.mk rfl rfl rfl (s8.over3 X3.out _ _ _) (t8.over3 X3.out _ _ _) (Below.over3 kb.out (by omega) _ _ _))
end Nt

end Go.Proofs.YtgimmmmpollkhaaGreat

namespace Go.Proofs.YtgimmmmpollkhaaGreat

open Go.RowKit

namespace Nt

set_option maxRecDepth 100000 in
set_option maxHeartbeats 4000000 in
theorem radd_q (q r Z : Rat) (hZ : q + r = Z) (A B C D : Option Addr) (a b c d : Nat) (w : World) (sA : Sl w A (digs (qn q))) (sB : Sl w B (digs (qd q))) (sC : Sl w C (digs (qn r))) (sD : Sl w D (digs (qd r))) (f1 : fitq q) (f2 : fitq r) (f3 : fitq Z) :
    Calls Tryz.prog 69 #[.agg #[.bool (qs q), .slice A (ln (qn q)) a, .slice B (ln (qd q)) b], .agg #[.bool (qs r), .slice C (ln (qn r)) c, .slice D (ln (qd r)) d]] w (RQE w Z) := by
  have V1 := hide (fun W (k : Below w.heap.size w W) => rvalid_q q A B a b W (kp' k sA) (kp' k sB) f1)
  have V2 := hide (fun W (k : Below w.heap.size w W) => rvalid_q r C D c d W (kp' k sC) (kp' k sD) f2)
  have AR := hide (fun W (k : Below w.heap.size w W) => raddRat_q q r Z hZ A B C D a b c d W (kp' k sA) (kp' k sB) (kp' k sC) (kp' k sD) f1 f2)
  have FT := hide (fun X Y e f W (sx : Sl W X (digs (qn Z))) (sy : Sl W Y (digs (qd Z))) => rfits_q Z X Y e f W sx sy f3)
  clear sA sB sC sD f1 f2 f3 hZ
  generalize qs q = s at *
  generalize qs r = t at *
  generalize ln (qn q) = i1 at *
  generalize ln (qd q) = i2 at *
  generalize ln (qn r) = i3 at *
  generalize ln (qd r) = i4 at *
  have X1 := hide (((Q3.new (.bool s) (.slice A i1 a) (.slice B i2 b) w).al (.cells #[.bool t, .slice C i3 c, .slice D i4 d] 25)).al (.cells #[.bool false, .slice none 0 0, .slice none 0 0] 25))
  have X2 := hide ((Q3.new1 (.bool t) (.slice C i3 c) (.slice D i4 d) w (.cells #[.bool s, .slice A i1 a, .slice B i2 b] 25)).al (.cells #[.bool false, .slice none 0 0, .slice none 0 0] 25))
  have X3 := hide (Q3.new2 (.bool false) (.slice none 0 0) (.slice none 0 0) w (.cells #[.bool s, .slice A i1 a, .slice B i2 b] 25) (.cells #[.bool t, .slice C i3 c, .slice D i4 d] 25))
  have b0 : Below w.heap.size w (((w.alloc (.cells #[.bool s, .slice A i1 a, .slice B i2 b] 25)).alloc (.cells #[.bool t, .slice C i3 c, .slice D i4 d] 25)).alloc (.cells #[.bool false, .slice none 0 0, .slice none 0 0] 25)) := bl_al (bl_al (bl_al (.refl _ _) _) _) _
  go_enter Tryz.func69, Tryz.ntmps69
  go_wp2_with (first
    | (go_at_call 30; (with_reducible refine (V1.out _ b0).mono ?_); rintro e w1 ⟨rfl, hb⟩; have X1 := hide (X1.out.next hb); have X2 := hide (X2.out.next hb); have X3 := hide (X3.out.next hb); (try clear x1 x2 x3 x4 x5 x6 y1 y2 y3 y4 y5 y6 u1 u2 u3 u4 u5 u6); obtain ⟨x1, x2, x3, x4, x5, x6⟩ := X1.out; obtain ⟨y1, y2, y3, y4, y5, y6⟩ := X2.out; obtain ⟨u1, u2, u3, u4, u5, u6⟩ := X3.out; have b1 := bl_trans b0 hb; clear hb)
    | (go_at_call 30; (with_reducible refine (V2.out _ b1).mono ?_); rintro e w2 ⟨rfl, hb⟩; have X1 := hide (X1.out.next hb); have X2 := hide (X2.out.next hb); have X3 := hide (X3.out.next hb); (try clear x1 x2 x3 x4 x5 x6 y1 y2 y3 y4 y5 y6 u1 u2 u3 u4 u5 u6); obtain ⟨x1, x2, x3, x4, x5, x6⟩ := X1.out; obtain ⟨y1, y2, y3, y4, y5, y6⟩ := X2.out; obtain ⟨u1, u2, u3, u4, u5, u6⟩ := X3.out; have b2 := bl_trans b1 hb; clear hb)
    | (go_at_call 116; (with_reducible refine (AR.out _ b2).mono ?_); rintro e w3 ⟨P3, p3, P4, p4, rfl, z3, z4, hb⟩; have X1 := hide (X1.out.next hb); have X2 := hide (X2.out.next hb); have X3 := hide (X3.out.next hb); (try clear x1 x2 x3 x4 x5 x6 y1 y2 y3 y4 y5 y6 u1 u2 u3 u4 u5 u6); obtain ⟨x1, x2, x3, x4, x5, x6⟩ := X1.out; obtain ⟨y1, y2, y3, y4, y5, y6⟩ := X2.out; obtain ⟨u1, u2, u3, u4, u5, u6⟩ := X3.out; have b3 := bl_trans b2 hb; clear hb)
    | (go_at_call 102; (with_reducible refine (FT.out P3 P4 p3 p4 _ z3 z4).mono ?_); rintro e w4 ⟨P5, p5, P6, p6, rfl, z5, z6, hb⟩; have X1 := hide (X1.out.next hb); have X2 := hide (X2.out.next hb); have X3 := hide (X3.out.next hb); (try clear x1 x2 x3 x4 x5 x6 y1 y2 y3 y4 y5 y6 u1 u2 u3 u4 u5 u6); obtain ⟨x1, x2, x3, x4, x5, x6⟩ := X1.out; obtain ⟨y1, y2, y3, y4, y5, y6⟩ := X2.out; obtain ⟨u1, u2, u3, u4, u5, u6⟩ := X3.out; have b4 := bl_trans b3 hb; clear hb))
  exact bodyPost_ret (v := .tuple #[.agg #[.bool (qs Z), .slice P5 (ln (qn Z)) p5, .slice P6 (ln (qd Z)) p6], .int .i64 0]) (by simp [results, Tryz.results69, go_sem, u1, u2, u3]) rfl (RQE.mk rfl rfl rfl (z5.over3 X3.out _ _ _) (z6.over3 X3.out _ _ _) (Below.over3 b4 (by omega) _ _ _))
end Nt

end Go.Proofs.YtgimmmmpollkhaaGreat

namespace Go.Proofs.YtgimmmmpollkhaaGreat

open Go.RowKit

namespace Nt
theorem neg_sgn (q : Rat) : qs (-q) = (!qs q && decide (0 < ln (qn q))) := by rw [← dec_ln]; exact qs_neg q
theorem S3c_next {w w' : World} (hb : Below w.heap.size w w') {p1 p2 p3 : Addr} {v1 v2 v3 : Value} (h : w.cell? p1 = some v1 ∧ w.cell? p2 = some v2 ∧ w.cell? p3 = some v3) :
    w'.cell? p1 = some v1 ∧ w'.cell? p2 = some v2 ∧ w'.cell? p3 = some v3 := ⟨cell_next hb h.1, cell_next hb h.2.1, cell_next hb h.2.2⟩
theorem S3c_over {w : World} {g h : Nat} {v1 v2 v3 a b c : Value} (n1 : h ≠ g) (x : w.cell? ⟨h, 0, none⟩ = some v1 ∧ w.cell? ⟨h, 1, none⟩ = some v2 ∧ w.cell? ⟨h, 2, none⟩ = some v3) :
    (((w.setCell ⟨g, 0, none⟩ a).setCell ⟨g, 1, none⟩ b).setCell ⟨g, 2, none⟩ c).cell? ⟨h, 0, none⟩ = some v1 ∧ (((w.setCell ⟨g, 0, none⟩ a).setCell ⟨g, 1, none⟩ b).setCell ⟨g, 2, none⟩ c).cell? ⟨h, 1, none⟩ = some v2 ∧ (((w.setCell ⟨g, 0, none⟩ a).setCell ⟨g, 1, none⟩ b).setCell ⟨g, 2, none⟩ c).cell? ⟨h, 2, none⟩ = some v3 :=
  ⟨cell_over3 x.1 n1 a b c, cell_over3 x.2.1 n1 a b c, cell_over3 x.2.2 n1 a b c⟩

set_option linter.unusedSimpArgs false in
set_option maxRecDepth 100000 in
set_option maxHeartbeats 4000000 in
theorem rneg_q (q M : Rat) (hM : -q = M) (A B : Option Addr) (a b : Nat) (w : World) (sA : Sl w A (digs (qn q))) (sB : Sl w B (digs (qd q))) (f1 : fitq q) (ca : ln (qn q) ≤ a) (cb : ln (qd q) ≤ b) :
    Calls Tryz.prog 49 #[.agg #[.bool (qs q), .slice A (ln (qn q)) a, .slice B (ln (qd q)) b]] w (RQ w M) := by
  have V1 := hide (fun W (k : Below w.heap.size w W) => rvalid_q q A B a b W (kp' k sA) (kp' k sB) f1)
  obtain ⟨n, hn⟩ : ∃ n, qn q = n := ⟨_, rfl⟩
  obtain ⟨m, hm⟩ : ∃ n, qd q = n := ⟨_, rfl⟩
  have T1 := hide (fun W (k : Below w.heap.size w W) => rtrim_z A a (qn q) W (kp' k sA) (Nat.le_trans f1.1 (by decide)) ca)
  have T2 := hide (fun W (k : Below w.heap.size w W) => rtrim_z B b (qd q) W (kp' k sB) (Nat.le_trans f1.2 (by decide)) cb)
  have E1 := hide (show qs M = (!qs q && decide (0 < ln (qn q))) by rw [← hM]; exact neg_sgn q)
  have E2 := hide (show qn M = n by rw [← hM, qn_neg]; exact hn)
  have E3 := hide (show qd M = m by rw [← hM, qd_neg]; exact hm)
  obtain ⟨i1, hi1⟩ : ∃ i, ln (qn q) = i := ⟨_, rfl⟩
  obtain ⟨i2, hi2⟩ : ∃ i, ln (qd q) = i := ⟨_, rfl⟩
  have e1 : i1 = ln n := by rw [← hn, hi1]
  have e2 : i2 = ln m := by rw [← hm, hi2]
  have T1 : Hid (∀ W, Below w.heap.size w W → Calls Tryz.prog 93 #[.slice A i1 a] W fun e w' => ∃ P p, e = .returned (.slice P i1 p) ∧ Sl w' P (digs n) ∧ Below W.heap.size W w') := by rw [← hi1, ← hn]; exact T1
  have T2 : Hid (∀ W, Below w.heap.size w W → Calls Tryz.prog 93 #[.slice B i2 b] W fun e w' => ∃ P p, e = .returned (.slice P i2 p) ∧ Sl w' P (digs m) ∧ Below W.heap.size W w') := by rw [← hi2, ← hm]; exact T2
  rw [hi1] at E1
  have MK := hide (fun (A B : Option Addr) (c d : Nat) (W : World) (sa : Sl W A (digs n)) (sb : Sl W B (digs m)) (b : Below w.heap.size w W) => (RQ.mk E1.out E2.out E3.out sa sb b : RQ w M (.returned (.agg #[.bool (!qs q && decide (0 < i1)), .slice A (ln n) c, .slice B (ln m) d])) W))
  rw [← e1, ← e2] at MK
  rw [hi1, hi2] at V1 ⊢
  have i0 : i1 ≤ 64 := by rw [← hi1]; exact f1.1
  clear sA sB f1 ca cb hM hn hm E1 E2 E3 hi1 hi2 e1 e2
  generalize qs q = s at *
  have X1 := hide ((Q3.new (.bool s) (.slice A i1 a) (.slice B i2 b) w).al (.cells #[.bool false, .slice none 0 0, .slice none 0 0] 25))
  have X3 := hide (Q3.new1 (.bool false) (.slice none 0 0) (.slice none 0 0) w (.cells #[.bool s, .slice A i1 a, .slice B i2 b] 25))
  have b0 : Below w.heap.size w ((w.alloc (.cells #[.bool s, .slice A i1 a, .slice B i2 b] 25)).alloc (.cells #[.bool false, .slice none 0 0, .slice none 0 0] 25)) := bl_al (bl_al (.refl _ _) _) _
  cases s with
  | true =>
    have MK : Hid (∀ (A B : Option Addr) (c d : Nat) (W : World), Sl W A (digs n) → Sl W B (digs m) → Below w.heap.size w W → RQ w M (.returned (.agg #[.bool false, .slice A i1 c, .slice B i2 d])) W) := MK
    go_enter Tryz.func49, Tryz.ntmps49
    go_wp2_with (first
      | (go_at_call 30; (with_reducible refine (V1.out _ b0).mono ?_); rintro e w1 ⟨rfl, hb⟩; have X1 := hide (X1.out.next hb); have X3 := hide (X3.out.next hb); obtain ⟨x1, x2, x3, x4, x5, x6⟩ := X1.out; obtain ⟨u1, u2, u3, u4, u5, u6⟩ := X3.out; have b1 := bl_trans b0 hb; clear hb))
    have kb := hide b1.drew
    have X3 := hide X3.out.drew
    refine wp_region_held_drew (S := (fun W => W.cell? ⟨w.heap.size, 0, none⟩ = some (.bool true) ∧ W.cell? ⟨w.heap.size, 1, none⟩ = some (.slice A i1 a) ∧ W.cell? ⟨w.heap.size, 2, none⟩ = some (.slice B i2 b))) (by kernel_rfl) ?_ (fun hHeld => ?_)
    · (try dsimp only)
      (first | exact ⟨x1, x2, x3⟩ | exact S3c_next hb (by assumption) | exact S3c_over (by omega) (by assumption) | assumption)
    refine wpAnyH_take (i := 0) (v := ?vv0) (by (simp only [List.getElem?_toArray, List.getElem?_cons_zero, List.getElem?_cons_succ]) <;> rfl) (by kernel_rfl) (by kernel_rfl) (by kernel_rfl) ?hq0 (Or.inl ⟨by rfl, ?hy0⟩) (by assumption) ?_
    case hq0 => exact fun _ _ _ h => h
    case hy0 => ((intro w hSw; (try dsimp only at hSw); go_simp) <;> (with_reducible rfl))
    (try simp only [Act.put, List.setIfInBounds_toArray, List.set_cons_zero, List.set_cons_succ])
    refine wpAnyH_take (i := 1) (v := ?vv1) (by (simp only [List.getElem?_toArray, List.getElem?_cons_zero, List.getElem?_cons_succ]) <;> rfl) (by kernel_rfl) (by kernel_rfl) (by kernel_rfl) ?hq1 (Or.inl ⟨by rfl, ?hy1⟩) (by assumption) ?_
    case hq1 => exact fun _ _ _ h => h
    case hy1 => ((intro w hSw; (try dsimp only at hSw); go_simp) <;> (with_reducible rfl))
    (try simp only [Act.put, List.setIfInBounds_toArray, List.set_cons_zero, List.set_cons_succ])
    refine wpAnyH_take (i := 2) (v := ?vv2) (by (simp only [List.getElem?_toArray, List.getElem?_cons_zero, List.getElem?_cons_succ]) <;> rfl) (by kernel_rfl) (by kernel_rfl) (by kernel_rfl) ?hq2 (Or.inl ⟨by rfl, ?hy2⟩) (by assumption) ?_
    case hq2 => exact fun _ _ _ h => h
    case hy2 => ((intro w hSw; (try dsimp only at hSw); go_simp) <;> (with_reducible rfl))
    (try simp only [Act.put, List.setIfInBounds_toArray, List.set_cons_zero, List.set_cons_succ])
    refine wpAnyH_take (i := 3) (v := ?vv3) (by (simp only [List.getElem?_toArray, List.getElem?_cons_zero, List.getElem?_cons_succ]) <;> rfl) (by kernel_rfl) (by kernel_rfl) (by kernel_rfl) ?hq3 (Or.inl ⟨by rfl, ?hy3⟩) (by assumption) ?_
    case hq3 => exact fun _ _ _ h => h
    case hy3 => ((intro w hSw; (try dsimp only at hSw); go_simp) <;> (with_reducible rfl))
    (try simp only [Act.put, List.setIfInBounds_toArray, List.set_cons_zero, List.set_cons_succ])
    refine wpAnyH_take (i := 4) (v := undef) (by (simp only [List.getElem?_toArray, List.getElem?_cons_zero, List.getElem?_cons_succ]) <;> rfl) (by kernel_rfl) (by kernel_rfl) (by kernel_rfl) ?hq4 (Or.inr ⟨by rfl, rfl⟩) (by assumption) ?_
    case hq4 => exact fun _ _ _ h => h
    (try simp only [Act.put, List.setIfInBounds_toArray, List.set_cons_zero, List.set_cons_succ])
    refine wpAnyH_take (i := 5) (v := undef) (by (simp only [List.getElem?_toArray, List.getElem?_cons_zero, List.getElem?_cons_succ]) <;> rfl) (by kernel_rfl) (by kernel_rfl) (by kernel_rfl) ?hq5 (Or.inr ⟨by rfl, rfl⟩) (by assumption) ?_
    case hq5 => exact fun _ _ _ h => h
    (try simp only [Act.put, List.setIfInBounds_toArray, List.set_cons_zero, List.set_cons_succ])
    refine wpAnyH_take (i := 6) (v := undef) (by (simp only [List.getElem?_toArray, List.getElem?_cons_zero, List.getElem?_cons_succ]) <;> rfl) (by kernel_rfl) (by kernel_rfl) (by kernel_rfl) ?hq6 (Or.inr ⟨by rfl, rfl⟩) (by assumption) ?_
    case hq6 => exact fun _ _ _ h => h
    (try simp only [Act.put, List.setIfInBounds_toArray, List.set_cons_zero, List.set_cons_succ])
    refine wpAnyH_take (i := 7) (v := undef) (by (simp only [List.getElem?_toArray, List.getElem?_cons_zero, List.getElem?_cons_succ]) <;> rfl) (by kernel_rfl) (by kernel_rfl) (by kernel_rfl) ?hq7 (Or.inr ⟨by rfl, rfl⟩) (by assumption) ?_
    case hq7 => exact fun _ _ _ h => h
    (try simp only [Act.put, List.setIfInBounds_toArray, List.set_cons_zero, List.set_cons_succ])
    refine wpAnyH_take (i := 8) (v := ?vv8) (by (simp only [List.getElem?_toArray, List.getElem?_cons_zero, List.getElem?_cons_succ]) <;> rfl) (by kernel_rfl) (by kernel_rfl) (by kernel_rfl) ?hq8 (Or.inl ⟨by rfl, ?hy8⟩) (by assumption) ?_
    case hq8 => exact fun _ _ _ h => h
    case hy8 => ((intro w hSw; (try dsimp only at hSw); go_simp) <;> (with_reducible rfl))
    (try simp only [Act.put, List.setIfInBounds_toArray, List.set_cons_zero, List.set_cons_succ])
    refine wpAnyH_take (i := 9) (v := ?vv9) (by (simp only [List.getElem?_toArray, List.getElem?_cons_zero, List.getElem?_cons_succ]) <;> rfl) (by kernel_rfl) (by kernel_rfl) (by kernel_rfl) ?hq9 (Or.inl ⟨by rfl, ?hy9⟩) (by assumption) ?_
    case hq9 => exact fun _ _ _ h => h
    case hy9 => ((intro w hSw; (try dsimp only at hSw); go_simp) <;> (with_reducible rfl))
    (try simp only [Act.put, List.setIfInBounds_toArray, List.set_cons_zero, List.set_cons_succ])
    refine wpAnyH_take (i := 10) (v := ?vv10) (by (simp only [List.getElem?_toArray, List.getElem?_cons_zero, List.getElem?_cons_succ]) <;> rfl) (by kernel_rfl) (by kernel_rfl) (by kernel_rfl) ?hq10 (Or.inl ⟨by rfl, ?hy10⟩) (by assumption) ?_
    case hq10 => exact fun _ _ _ h => h
    case hy10 => ((intro w hSw; (try dsimp only at hSw); go_simp) <;> (with_reducible rfl))
    (try simp only [Act.put, List.setIfInBounds_toArray, List.set_cons_zero, List.set_cons_succ])
    refine wpAnyH_take (i := 12) (v := ?vv12) (by (simp only [List.getElem?_toArray, List.getElem?_cons_zero, List.getElem?_cons_succ]) <;> rfl) (by kernel_rfl) (by kernel_rfl) (by kernel_rfl) ?hq12 (Or.inl ⟨by rfl, ?hy12⟩) (by assumption) ?_
    case hq12 => exact fun _ _ _ h => h
    case hy12 => ((intro w hSw; (try dsimp only at hSw); go_simp) <;> (with_reducible rfl))
    (try simp only [Act.put, List.setIfInBounds_toArray, List.set_cons_zero, List.set_cons_succ])
    refine wpAnyH_take (i := 13) (v := ?vv13) (by (simp only [List.getElem?_toArray, List.getElem?_cons_zero, List.getElem?_cons_succ]) <;> rfl) (by kernel_rfl) (by kernel_rfl) (by kernel_rfl) ?hq13 (Or.inl ⟨by rfl, ?hy13⟩) (by assumption) ?_
    case hq13 => exact fun _ _ _ h => h
    case hy13 => ((intro w hSw; (try dsimp only at hSw); go_simp) <;> (with_reducible rfl))
    (try simp only [Act.put, List.setIfInBounds_toArray, List.set_cons_zero, List.set_cons_succ])
    refine wpAnyH_ready (rs := [11]) (by kernel_rfl) (by simp) ?_
    refine AllReadyH.cons (by (simp only [List.getElem?_toArray, List.getElem?_cons_zero, List.getElem?_cons_succ]) <;> rfl) (fun K hK => ?_) AllReadyH.nil
    go_simp
    go_at_call 93; (with_reducible refine (T1.out _ kb.out).mono ?_); rintro e v1 ⟨P1, p1, rfl, z1, hb⟩; have X3 := hide (X3.out.next hb); have kb := hide (bl_trans kb.out hb)
    (try go_wp2_with fail)
    refine hK.out _ _ ?_ (fun hHeld => ?_)
    · (try dsimp only)
      (first | exact ⟨x1, x2, x3⟩ | exact S3c_next hb (by assumption) | exact S3c_over (by omega) (by assumption) | assumption)
    clear hK K
    (try simp only [Act.put, List.setIfInBounds_toArray, List.set_cons_zero, List.set_cons_succ])
    refine wpAnyH_ready (rs := [14]) (by kernel_rfl) (by simp) ?_
    refine AllReadyH.cons (by (simp only [List.getElem?_toArray, List.getElem?_cons_zero, List.getElem?_cons_succ]) <;> rfl) (fun K hK => ?_) AllReadyH.nil
    go_simp
    go_at_call 93; (with_reducible refine (T2.out _ kb.out).mono ?_); rintro e v2 ⟨P2, p2, rfl, z2, hb⟩; have X3 := hide (X3.out.next hb); have kb := hide (bl_trans kb.out hb); have z1 := kp' hb z1; obtain ⟨k1, k2, k3, k4, k5, k6⟩ := X3.out
    (try go_wp2_with fail)
    refine hK.out _ _ ?_ (fun hHeld => ?_)
    · (try dsimp only)
      (first | exact ⟨x1, x2, x3⟩ | exact S3c_next hb (by assumption) | exact S3c_over (by omega) (by assumption) | assumption)
    clear hK K
    (try simp only [Act.put, List.setIfInBounds_toArray, List.set_cons_zero, List.set_cons_succ])
    refine wpAnyH_take (i := 15) (v := ?vv15) (by (simp only [List.getElem?_toArray, List.getElem?_cons_zero, List.getElem?_cons_succ]) <;> rfl) (by kernel_rfl) (by kernel_rfl) (by kernel_rfl) ?hq15 (Or.inl ⟨by rfl, ?hy15⟩) (by assumption) ?_
    case hq15 => exact fun _ _ _ h => h
    case hy15 => ((intro w hSw; (try dsimp only at hSw); go_simp) <;> (with_reducible rfl))
    (try simp only [Act.put, List.setIfInBounds_toArray, List.set_cons_zero, List.set_cons_succ])
    refine wpAnyH_ready (rs := [16]) (by kernel_rfl) (by simp) ?_
    refine AllReadyH.cons (by (simp only [List.getElem?_toArray, List.getElem?_cons_zero, List.getElem?_cons_succ]) <;> rfl) (fun K hK => ?_) AllReadyH.nil
    go_simp
    refine hK.out _ _ ?_ (fun hHeld => ?_)
    · (try dsimp only)
      (first | exact ⟨x1, x2, x3⟩ | exact S3c_next hb (by assumption) | exact S3c_over (by omega) (by assumption) | assumption)
    clear hK K
    (try simp only [Act.put, List.setIfInBounds_toArray, List.set_cons_zero, List.set_cons_succ])
    refine wpAnyH_done (by kernel_rfl) ?_ _
    go_wp2
    exact bodyPost_ret (v := .agg #[.bool false, .slice P1 i1 p1, .slice P2 i2 p2]) (by simp [results, Tryz.results49, go_sem, k1, k2, k3]) rfl (MK.out P1 P2 p1 p2 _ (z1.over3 X3.out _ _ _) (z2.over3 X3.out _ _ _) (Below.over3 kb.out (by omega) _ _ _))
  | false =>
    obtain ⟨z, hz⟩ : ∃ z, decide (0 < i1) = z := ⟨_, rfl⟩
    have MK : Hid (∀ (A B : Option Addr) (c d : Nat) (W : World), Sl W A (digs n) → Sl W B (digs m) → Below w.heap.size w W → RQ w M (.returned (.agg #[.bool z, .slice A i1 c, .slice B i2 d])) W) := by rw [← hz]; exact MK
    have oz : binOp .gtr 3 (.int .i64 (i1 : Int)) (.int .i64 0) = pure (.bool z) := by
      show pure (Value.bool (decide ((i1 : Int) > 0))) = _
      rw [← hz]; congr 2; exact decide_eq_decide.2 (by omega)
    clear hz
    go_enter Tryz.func49, Tryz.ntmps49
    go_wp2_with (first
      | (go_at_call 30; (with_reducible refine (V1.out _ b0).mono ?_); rintro e w1 ⟨rfl, hb⟩; have X1 := hide (X1.out.next hb); have X3 := hide (X3.out.next hb); obtain ⟨x1, x2, x3, x4, x5, x6⟩ := X1.out; obtain ⟨u1, u2, u3, u4, u5, u6⟩ := X3.out; have b1 := bl_trans b0 hb; clear hb))
    have kb := hide b1.drew
    have X3 := hide X3.out.drew
    first
     | (go_region_held3 (fun W => W.cell? ⟨w.heap.size, 0, none⟩ = some (.bool false) ∧ W.cell? ⟨w.heap.size, 1, none⟩ = some (.slice A i1 a) ∧ W.cell? ⟨w.heap.size, 2, none⟩ = some (.slice B i2 b))
      (first | exact ⟨x1, x2, x3⟩ | with_reducible exact S3c_next hb (by assumption) | with_reducible exact S3c_over (by omega) (by assumption) | with_reducible assumption)
      (first
        | (go_at_call 93; (with_reducible refine (T1.out _ kb.out).mono ?_); rintro e v1 ⟨P1, p1, rfl, z1, hb⟩; have X3 := hide (X3.out.next hb); have kb := hide (bl_trans kb.out hb); (try have z2 := kp' hb z2); (try (obtain ⟨k1, k2, k3, k4, k5, k6⟩ := X3.out)))
        | (go_at_call 93; (with_reducible refine (T2.out _ kb.out).mono ?_); rintro e v2 ⟨P2, p2, rfl, z2, hb⟩; have X3 := hide (X3.out.next hb); have kb := hide (bl_trans kb.out hb); (try have z1 := kp' hb z1); (try clear k1 k2 k3 k4 k5 k6); (try (obtain ⟨k1, k2, k3, k4, k5, k6⟩ := X3.out)))))
     | fail
    all_goals
      go_wp2
      exact bodyPost_ret (v := .agg #[.bool z, .slice P1 i1 p1, .slice P2 i2 p2]) (by simp [results, Tryz.results49, go_sem, k1, k2, k3]) rfl (MK.out P1 P2 p1 p2 _ (z1.over3 X3.out _ _ _) (z2.over3 X3.out _ _ _) (Below.over3 kb.out (by omega) _ _ _))
end Nt

end Go.Proofs.YtgimmmmpollkhaaGreat

namespace Go.Proofs.YtgimmmmpollkhaaGreat

open Go.RowKit

namespace Nt

end Nt

end Go.Proofs.YtgimmmmpollkhaaGreat

namespace Go.Proofs.YtgimmmmpollkhaaGreat

open Go.RowKit

namespace Nt
def ROut (w : World) (s : Bool) (xs ys : List Nat) (k : Int) (e : Ending) (w' : World) : Prop := ∃ A c B d, e = .returned (.tuple #[.agg #[.bool s, .slice A xs.length c, .slice B ys.length d], .int .i64 k]) ∧ Sl w' A xs ∧ Sl w' B ys ∧ Below w.heap.size w w'
def RVal (w : World) (s : Bool) (xs ys : List Nat) (e : Ending) (w' : World) : Prop := ∃ A c B d, e = .returned (.agg #[.bool s, .slice A xs.length c, .slice B ys.length d]) ∧ Sl w' A xs ∧ Sl w' B ys ∧ Below w.heap.size w w'
theorem RQE.out {w w' : World} {q : Rat} {e : Ending} (h : RQE w q e w') : ROut w (qs q) (digs (qn q)) (digs (qd q)) 0 e w' := h
theorem RQ.out {w w' : World} {q : Rat} {e : Ending} (h : RQ w q e w') : RVal w (qs q) (digs (qn q)) (digs (qd q)) e w' := h
theorem RNo.out {w w' : World} {e : Ending} (h : RNo 1 w e w') : ROut w false [] [] 1 e w' := ⟨none, 0, none, 0, h.1, .nil, .nil, h.2⟩
end Nt

end Go.Proofs.YtgimmmmpollkhaaGreat
