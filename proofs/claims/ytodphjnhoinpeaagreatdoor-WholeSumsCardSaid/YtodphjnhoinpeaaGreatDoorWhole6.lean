/-
  Package whole: nextBelow, Div.
-/
import Derived.Test.YtodphjnhoinpeaaGreatDoorWholeA
import Derived.Test.YtodphjnhoinpeaaGreatDoorLong
import Derived.RegionTactic
import Derived.ChangeAlike
namespace Go.Proofs.YtodphjnhoinpeaaGreatDoor
open Go.RowKit
namespace Nt

/-- Two rows, handed back. -/
def TwoS (w : World) (xs ys : List Nat) (e : Ending) (w' : World) : Prop := ∃ A c B d, e = .returned (.tuple #[.slice A xs.length c, .slice B ys.length d]) ∧ Sl w' A xs ∧ Sl w' B ys ∧ Below w.heap.size w w'

theorem validB_dg {n : Nat} (h : n < LB ^ 64) : validB (digs n) = true := validB_iff.2 ⟨digs_64 h, norm_digs n⟩
theorem add_at (A B : Option Addr) (n k c d x y : Nat) (w : World) (hn : (digs x).length = n) (hk : (digs y).length = k) (hx : Sl w A (digs x)) (hy : Sl w B (digs y)) (lx : x < LB ^ 64) (ly : y < LB ^ 64) (h : x + y < LB ^ 64) :
    Calls Tryz.prog 60 #[.slice A n c, .slice B k d] w (Two w (digs (x + y), 0)) := by
  subst hn hk
  have := add_any A B c d _ _ w hx hy (limbs_digs _) (limbs_digs _) (Nat.le_trans (length_digs_le.2 lx) (by decide)) (Nat.le_trans (length_digs_le.2 ly) (by decide))
  unfold addSp at this
  rw [validB_dg lx, validB_dg ly, val_digs, val_digs] at this
  simpa [h] using this
theorem sub_at (A B : Option Addr) (n k c d x y : Nat) (w : World) (hn : (digs x).length = n) (hk : (digs y).length = k) (hx : Sl w A (digs x)) (hy : Sl w B (digs y)) (lx : x < LB ^ 64) (ly : y < LB ^ 64) (h : y ≤ x) :
    Calls Tryz.prog 40 #[.slice A n c, .slice B k d] w (Two w (digs (x - y), 0)) := by
  subst hn hk
  have := sub_any A B c d _ _ w hx hy (limbs_digs _) (limbs_digs _) (Nat.le_trans (length_digs_le.2 lx) (by decide)) (Nat.le_trans (length_digs_le.2 ly) (by decide))
  rwa [subSp_ok (validB_dg lx) (validB_dg ly) (by rw [val_digs, val_digs]; exact h), val_digs, val_digs] at this

set_option maxHeartbeats 400000 in
theorem nextBelow_any (A B C : Option Addr) (n m k a b c x r y : Nat) (w : World) (hn : (digs x).length = n) (hm : (digs r).length = m) (hk : (digs y).length = k) (hx : Sl w A (digs x)) (hr : Sl w B (digs r)) (hy : Sl w C (digs y))
    (lx : x < LB ^ 64) (lr : r < LB ^ 64) (ly : y < LB ^ 64) (h1 : x + 1 < LB ^ 64) (h2 : r ≤ y) :
    Calls Tryz.prog 90 #[.slice A n a, .slice B m b, .slice C k c] w (TwoS w (digs (x + 1)) (digs (y - r))) := by
  have e1 : digs 1 = [1] := digs1 (by decide) (by decide)
  have l1 : 1 < LB ^ 64 := Nat.lt_of_le_of_lt (Nat.le_add_left 1 x) h1
  have O : Hid (∀ W, Calls Tryz.prog 17 #[.int .i64 1] W (Mk W [1])) := fun W => of_any 1 (by omega) (by omega) W
  have HX := hide hx
  have HR := hide hr
  have HY := hide hy
  have D1 := hide (show (digs 1).length = 1 by rw [e1]; rfl)
  have AD := hide (fun W A3 c3 (b : Below w.heap.size w W) (s : Sl W A3 [1]) => add_at A A3 n 1 a c3 x 1 W hn D1.out (bl_keeps b _ _ HX.out) (by rw [e1]; exact s) lx l1 h1)
  have SB := hide (fun W (b' : Below w.heap.size w W) => sub_at C B k m c b y r W hk hm (bl_keeps b' _ _ HY.out) (bl_keeps b' _ _ HR.out) ly lr h2)
  clear hx hr hy hn hm hk e1 l1 h1 h2
  go_enter Tryz.func90, Tryz.ntmps90
  go_wp2_with (first
    | (go_at_call 17; (with_reducible refine (O.out _).mono ?_); rintro e w1 ⟨A3, c3, rfl, r3, b1⟩; have s3 := hide r3.sl; clear r3)
    | (go_at_call 60; (with_reducible refine (AD.out _ A3 _ b1 s3.out).mono ?_); rintro e w2 h; obtain ⟨A4, c4, rfl, s4, b0⟩ := h.get; have b2 := bl_trans b1 b0; clear h b0)
    | (go_at_call 40; (with_reducible refine (SB.out _ b2).mono ?_); rintro e w3 h; obtain ⟨A5, c5, rfl, s5, b0⟩ := h.get; have b3 := bl_trans b2 b0; have s4 := bl_keeps b0 _ _ s4; clear h b0))
  go_ret2
  exact ⟨_, _, _, _, rfl, s4, s5, b3⟩
/-- A quotient that goes down, and what is left: of sizes m and n, of signs that differ (or not). -/
def downQ (d : Bool) (m n : Nat) : Nat := if d = true ∧ 0 < m % n then m / n + 1 else m / n
def downR (d : Bool) (m n : Nat) : Nat := if d = true ∧ 0 < m % n then n - m % n else m % n
/-- Div, as the document says. -/
def divISp (s : Bool) (xs : List Nat) (t : Bool) (ys : List Nat) : (Bool × List Nat) × (Bool × List Nat) × Nat :=
  if validI s xs = true ∧ validI t ys = true ∧ 0 < ys.length then (((s != t) && decide (0 < (digs (downQ (s != t) (val xs) (val ys))).length), digs (downQ (s != t) (val xs) (val ys))), (t && decide (0 < (digs (downR (s != t) (val xs) (val ys))).length), digs (downR (s != t) (val xs) (val ys))), 0) else ((false, []), (false, []), 1)
theorem divI_no {s t : Bool} {xs ys : List Nat} (h : ¬ (validI s xs = true ∧ validI t ys = true ∧ 0 < ys.length)) : divISp s xs t ys = ((false, []), (false, []), 1) := by
  unfold divISp; rw [if_neg h]
theorem divI_ok {s t : Bool} {xs ys : List Nat} (h : validI s xs = true ∧ validI t ys = true ∧ 0 < ys.length) : divISp s xs t ys = (((s != t) && decide (0 < (digs (downQ (s != t) (val xs) (val ys))).length), digs (downQ (s != t) (val xs) (val ys))), (t && decide (0 < (digs (downR (s != t) (val xs) (val ys))).length), digs (downR (s != t) (val xs) (val ys))), 0) := by
  unfold divISp; rw [if_pos h]
theorem down_plain {d : Bool} {m n : Nat} (h : ¬ (d = true ∧ 0 < m % n)) : downQ d m n = m / n ∧ downR d m n = m % n := by
  unfold downQ downR; rw [if_neg h, if_neg h]; exact ⟨rfl, rfl⟩
theorem down_more {d : Bool} {m n : Nat} (h : d = true ∧ 0 < m % n) : downQ d m n = m / n + 1 ∧ downR d m n = n - m % n := by
  unfold downQ downR; rw [if_pos h, if_pos h]; exact ⟨rfl, rfl⟩
/-- What a call hands back that answers two whole numbers and an error. -/
def IThree (w : World) (r : (Bool × List Nat) × (Bool × List Nat) × Nat) (e : Ending) (w' : World) : Prop := ∃ A c B d, e = .returned (.tuple #[.agg #[.bool r.1.1, .slice A r.1.2.length c], .agg #[.bool r.2.1.1, .slice B r.2.1.2.length d], .int .i64 (r.2.2 : Int)]) ∧ Sl w' A r.1.2 ∧ Sl w' B r.2.1.2 ∧ Below w.heap.size w w'
theorem IThree.mk {w w' : World} {r : (Bool × List Nat) × (Bool × List Nat) × Nat} {s t : Bool} {xs ys : List Nat} {n m k c d : Nat} {A B : Option Addr} (hr : r = ((s, xs), (t, ys), k)) (hn : xs.length = n) (hm : ys.length = m) (hs : Sl w' A xs) (ht : Sl w' B ys) (hb : Below w.heap.size w w') :
    IThree w r (.returned (.tuple #[.agg #[.bool s, .slice A n c], .agg #[.bool t, .slice B m d], .int .i64 (k : Int)])) w' := by
  subst hr; subst hn; subst hm; exact ⟨A, c, B, d, rfl, hs, ht, hb⟩
theorem Bx2.drew {h : Nat} {s : Bool} {A : Option Addr} {n c : Nat} {t : Bool} {B : Option Addr} {m d : Nat} {w : World} (x : Bx2 h s A n c t B m d w) : Bx2 h s A n c t B m d w.drew := x
/-- The four blocks of a division's call. -/
def Bx4 (h : Nat) (s : Bool) (A : Option Addr) (n c : Nat) (t : Bool) (B : Option Addr) (m d : Nat) (w : World) : Prop := Bx2 h s A n c t B m d w ∧ Rc (h + 1 + 1) w ∧ Rc (h + 1 + 1 + 1) w
theorem Bx4.next {h : Nat} {s : Bool} {A : Option Addr} {n c : Nat} {t : Bool} {B : Option Addr} {m d : Nat} {w w' : World} (x : Bx4 h s A n c t B m d w) (hb : Below w.heap.size w w') : Bx4 h s A n c t B m d w' := ⟨x.1.next hb, x.2.1.next hb, x.2.2.next hb⟩
theorem Bx4.drew {h : Nat} {s : Bool} {A : Option Addr} {n c : Nat} {t : Bool} {B : Option Addr} {m d : Nat} {w : World} (x : Bx4 h s A n c t B m d w) : Bx4 h s A n c t B m d w.drew := x
theorem Bx4.flat {h : Nat} {s : Bool} {A : Option Addr} {n c : Nat} {t : Bool} {B : Option Addr} {m d : Nat} {w : World} (x : Bx4 h s A n c t B m d w) :
    (w.cell? ⟨h, 0, none⟩ = some (.bool s) ∧ w.cell? ⟨h, 1, none⟩ = some (.slice A n c) ∧ w.cell? ⟨h + 1, 0, none⟩ = some (.bool t) ∧ w.cell? ⟨h + 1, 1, none⟩ = some (.slice B m d)) ∧
    (w.cell? ⟨h + 1 + 1, 0, none⟩ = some (.bool false) ∧ w.cell? ⟨h + 1 + 1, 1, none⟩ = some (.slice none 0 0) ∧ w.frozen? ⟨h + 1 + 1, 0, none⟩ = false ∧ w.frozen? ⟨h + 1 + 1, 1, none⟩ = false) ∧
    (w.cell? ⟨h + 1 + 1 + 1, 0, none⟩ = some (.bool false) ∧ w.cell? ⟨h + 1 + 1 + 1, 1, none⟩ = some (.slice none 0 0) ∧ w.frozen? ⟨h + 1 + 1 + 1, 0, none⟩ = false ∧ w.frozen? ⟨h + 1 + 1 + 1, 1, none⟩ = false) := x
theorem Bx4.start (s : Bool) (A : Option Addr) (n c : Nat) (t : Bool) (B : Option Addr) (m d : Nat) (w : World) : Bx4 w.heap.size s A n c t B m d ((((w.alloc (.cells #[.bool s, .slice A n c] 41)).alloc (.cells #[.bool t, .slice B m d] 41)).alloc (.cells #[.bool false, .slice none 0 0] 41)).alloc (.cells #[.bool false, .slice none 0 0] 41)) := by
  have b0 := Bx2.start s A n c t B m d w
  have e2 : ((w.alloc (.cells #[.bool s, .slice A n c] 41)).alloc (.cells #[.bool t, .slice B m d] 41)).heap.size = w.heap.size + 1 + 1 := by rw [size1, size1]
  generalize ((w.alloc (.cells #[.bool s, .slice A n c] 41)).alloc (.cells #[.bool t, .slice B m d] 41)) = W at *
  have r1 := Rc.start W
  have e3 : (W.alloc (.cells #[.bool false, .slice none 0 0] 41)).heap.size = w.heap.size + 1 + 1 + 1 := by rw [size1, e2]
  have r2 := Rc.start (W.alloc (.cells #[.bool false, .slice none 0 0] 41))
  have g1 := bl_al (.refl _ W) (.cells #[.bool false, .slice none 0 0] 41)
  have g2 := bl_al (.refl _ (W.alloc (.cells #[.bool false, .slice none 0 0] 41))) (.cells #[.bool false, .slice none 0 0] 41)
  rw [e2] at r1
  rw [e3] at r2
  exact ⟨(b0.next g1).next g2, r1.next g2, r2⟩
theorem Sl.store4 {w : World} {A : Option Addr} {xs : List Nat} (h : Sl w A xs) {g k : Nat} (r1 : Rc g w) (r2 : Rc k w) (hne : k ≠ g) (u v u' v' : Value) : Sl ((((w.setCell ⟨g, 0, none⟩ u).setCell ⟨g, 1, none⟩ v).setCell ⟨k, 0, none⟩ u').setCell ⟨k, 1, none⟩ v') A xs :=
  have r3 := r2.store hne u v
  (h.store2 r1.1 r1.2.1 u v).store2 r3.1 r3.2.1 u' v'

set_option maxRecDepth 100000 in
set_option maxHeartbeats 12000000 in
theorem divI_any (s t : Bool) (A B : Option Addr) (c d : Nat) (xs ys : List Nat) (w : World) (hx : Sl w A xs) (hy : Sl w B ys) (lx : Limbs xs) (ly : Limbs ys) (hl : xs.length ≤ 1000000) (hl' : ys.length ≤ 1000000) :
    Calls Tryz.prog 57 #[.agg #[.bool s, .slice A xs.length c], .agg #[.bool t, .slice B ys.length d]] w (IThree w (divISp s xs t ys)) := by
  have V1 := hide (fun W (h : Below w.heap.size w W) => validI_any s A c xs W (bl_keeps h _ _ hx) (by omega))
  have V2 := hide (fun W (h : Below w.heap.size w W) => validI_any t B d ys W (bl_keeps h _ _ hy) (by omega))
  have b0 : Below w.heap.size w ((((w.alloc (.cells #[.bool s, .slice A xs.length c] 41)).alloc (.cells #[.bool t, .slice B ys.length d] 41)).alloc (.cells #[.bool false, .slice none 0 0] 41)).alloc (.cells #[.bool false, .slice none 0 0] 41)) := bl_al (bl_al (bl_al (bl_al (.refl _ _) _) _) _) _
  have X := hide (Bx4.start s A xs.length c t B ys.length d w)
  have D := hide (fun W (h : Below w.heap.size w W) => divmod_all A B c d xs ys W (bl_keeps h _ _ hx) (bl_keeps h _ _ hy) lx ly hl hl')
  cases hv : validI s xs with
  | false =>
    have E := hide (divI_no (s := s) (t := t) (xs := xs) (ys := ys) (by rw [hv]; simp))
    rw [hv] at V1
    clear hv V2 D hx hy lx ly
    generalize xs.length = n at *
    generalize ys.length = m at *
    go_enter Tryz.func57, Tryz.ntmps57
    go_wp2_with (go_at_call 36; (with_reducible refine (V1.out _ b0).mono ?_); rintro e w1 ⟨rfl, hb⟩; have X := hide (X.out.next hb); obtain ⟨⟨x1, x2, x3, x4⟩, ⟨y1, y2, y3, y4⟩, z1, z2, z3, z4⟩ := X.out.flat; have b1 := bl_trans b0 hb; clear hb)
    go_region
    all_goals
      go_wp2
      refine bodyPost_ret (v := .tuple #[.agg #[.bool false, .slice none 0 0], .agg #[.bool false, .slice none 0 0], .int .i64 1]) (by simp [results, Tryz.results57, go_sem, y1, y2, z1, z2]) rfl (IThree.mk E.out rfl rfl .nil .nil ?_)
      exact Below.store2 (Below.store2 b1.drew (by omega) _ _) (by omega) _ _
  | true =>
    cases hv2 : validI t ys with
    | false =>
      have E := hide (divI_no (s := s) (t := t) (xs := xs) (ys := ys) (by rw [hv2]; simp))
      rw [hv] at V1
      rw [hv2] at V2
      clear hv hv2 D hx hy lx ly
      generalize xs.length = n at *
      generalize ys.length = m at *
      go_enter Tryz.func57, Tryz.ntmps57
      go_wp2_with (first | (go_at_call 36; (with_reducible refine (V1.out _ b0).mono ?_); rintro e w1 ⟨rfl, hb⟩; have X := hide (X.out.next hb); obtain ⟨⟨x1, x2, x3, x4⟩, ⟨y1, y2, y3, y4⟩, z1, z2, z3, z4⟩ := X.out.flat; have b1 := bl_trans b0 hb; clear hb) | (go_at_call 36; (with_reducible refine (V2.out _ b1).mono ?_); rintro e w2 ⟨rfl, hb⟩; have X := hide (X.out.next hb); obtain ⟨⟨x1, x2, x3, x4⟩, ⟨y1, y2, y3, y4⟩, z1, z2, z3, z4⟩ := X.out.flat; have b2 := bl_trans b1 hb; clear hb))
      go_region
      all_goals
        go_wp2
        refine bodyPost_ret (v := .tuple #[.agg #[.bool false, .slice none 0 0], .agg #[.bool false, .slice none 0 0], .int .i64 1]) (by simp [results, Tryz.results57, go_sem, y1, y2, z1, z2]) rfl (IThree.mk E.out rfl rfl .nil .nil ?_)
        exact Below.store2 (Below.store2 b2.drew (by omega) _ _) (by omega) _ _
    | true =>
      rw [hv] at V1
      rw [hv2] at V2
      by_cases h0 : ys.length = 0
      · have E := hide (divI_no (s := s) (t := t) (xs := xs) (ys := ys) (by rw [h0]; simp))
        have ED : divSp xs ys = ([], [], 1) := divSp_no (.inr (.inr (List.eq_nil_of_length_eq_zero h0)))
        rw [ED] at D
        clear ED h0 hv hv2 hx hy lx ly
        generalize xs.length = n at *
        generalize ys.length = m at *
        go_enter Tryz.func57, Tryz.ntmps57
        go_wp2_with (first | (go_at_call 36; (with_reducible refine (V1.out _ b0).mono ?_); rintro e w1 ⟨rfl, hb⟩; have X := hide (X.out.next hb); obtain ⟨⟨x1, x2, x3, x4⟩, ⟨y1, y2, y3, y4⟩, z1, z2, z3, z4⟩ := X.out.flat; have b1 := bl_trans b0 hb; clear hb) | (go_at_call 36; (with_reducible refine (V2.out _ b1).mono ?_); rintro e w2 ⟨rfl, hb⟩; have X := hide (X.out.next hb); obtain ⟨⟨x1, x2, x3, x4⟩, ⟨y1, y2, y3, y4⟩, z1, z2, z3, z4⟩ := X.out.flat; have b2 := bl_trans b1 hb; clear hb) | (go_at_call 7; (with_reducible refine (D.out _ b2).mono ?_); rintro e w3 h; obtain ⟨A3, c3, B3, d3, rfl, s3, t3, hb⟩ := h.get; have X := hide (X.out.next hb); obtain ⟨⟨x1, x2, x3, x4⟩, ⟨y1, y2, y3, y4⟩, z1, z2, z3, z4⟩ := X.out.flat; have b3 := bl_trans b2 hb; clear h hb))
        go_region
        all_goals
          go_wp2
          refine bodyPost_ret (v := .tuple #[.agg #[.bool false, .slice none 0 0], .agg #[.bool false, .slice none 0 0], .int .i64 1]) (by simp [results, Tryz.results57, go_sem, y1, y2, z1, z2]) rfl (IThree.mk E.out rfl rfl .nil .nil ?_)
          exact Below.store2 (Below.store2 b3.drew (by omega) _ _) (by omega) _ _
      · have hp : 0 < ys.length := by omega
        have hnp := val_pos ly (validI_B hv2) hp
        have hx64 : val xs < LB ^ 64 := Nat.lt_of_lt_of_le (val_lt lx) (Nat.pow_le_pow_right LB_pos (validB_iff.1 (validI_B hv)).1)
        have hy64 : val ys < LB ^ 64 := Nat.lt_of_lt_of_le (val_lt ly) (Nat.pow_le_pow_right LB_pos (validB_iff.1 (validI_B hv2)).1)
        have ED := divSp_ok (validI_B hv) (validI_B hv2) hp
        have hq64 : (digs (val xs / val ys)).length ≤ 64 := length_digs_le.2 (Nat.lt_of_le_of_lt (Nat.div_le_self _ _) hx64)
        have hr64 : (digs (val xs % val ys)).length ≤ 64 := length_digs_le.2 (Nat.lt_of_le_of_lt (Nat.mod_le _ _) hx64)
        have n1 := hide (show w.heap.size + 1 ≠ w.heap.size + 1 + 1 by omega)
        have n2 := hide (show w.heap.size ≠ w.heap.size + 1 + 1 by omega)
        have n3 := hide (show w.heap.size + 1 ≠ w.heap.size + 1 + 1 + 1 by omega)
        have n4 := hide (show w.heap.size ≠ w.heap.size + 1 + 1 + 1 by omega)
        rw [ED] at D
        have E0 := divI_ok ⟨hv, hv2, hp⟩
        by_cases hst : s = t
        · subst hst
          obtain ⟨e1, e2⟩ := down_plain (d := (s != s)) (m := val xs) (n := val ys) (by simp)
          rw [e1, e2, show (s != s) = false by simp] at E0
          have E := hide E0
          clear ED E0 e1 e2 h0 hv hv2 hx hy lx ly hp hnp hx64 hy64
          generalize digs (val xs / val ys) = Q at *
          generalize digs (val xs % val ys) = R at *
          have LQ := hide (show Q.length ≤ 9223372036854775807 by omega)
          have LR := hide (show R.length ≤ 9223372036854775807 by omega)
          generalize xs.length = n at *
          generalize ys.length = m at *
          go_enter Tryz.func57, Tryz.ntmps57
          go_wp2_with (first | (go_at_call 36; (with_reducible refine (V1.out _ b0).mono ?_); rintro e w1 ⟨rfl, hb⟩; have X := hide (X.out.next hb); obtain ⟨⟨x1, x2, x3, x4⟩, ⟨y1, y2, y3, y4⟩, z1, z2, z3, z4⟩ := X.out.flat; have b1 := bl_trans b0 hb; clear hb) | (go_at_call 36; (with_reducible refine (V2.out _ b1).mono ?_); rintro e w2 ⟨rfl, hb⟩; have X := hide (X.out.next hb); obtain ⟨⟨x1, x2, x3, x4⟩, ⟨y1, y2, y3, y4⟩, z1, z2, z3, z4⟩ := X.out.flat; have b2 := bl_trans b1 hb; clear hb) | (go_at_call 7; (with_reducible refine (D.out _ b2).mono ?_); rintro e w3 h; obtain ⟨A3, c3, B3, d3, rfl, s3, t3, hb⟩ := h.get; have X := hide (X.out.next hb); obtain ⟨⟨x1, x2, x3, x4⟩, ⟨y1, y2, y3, y4⟩, z1, z2, z3, z4⟩ := X.out.flat; have b3 := bl_trans b2 hb; clear h hb))
          go_region_held3 (fun w' => w'.cell? ⟨w.heap.size, 0, none⟩ = some (.bool s) ∧ w'.cell? ⟨w.heap.size, 1, none⟩ = some (.slice A n c) ∧ w'.cell? ⟨w.heap.size + 1, 0, none⟩ = some (.bool s) ∧ w'.cell? ⟨w.heap.size + 1, 1, none⟩ = some (.slice B m d))
            (first | exact ⟨x1, x2, x3, x4⟩ | exact S_store12 (by assumption) n2.out n2.out n1.out n1.out | exact S_store12 (by assumption) n4.out n4.out n3.out n3.out | exact S_next12 hbr (by assumption) | exact S_next12 hbq (by assumption) | go_keep)
            (first
              | (go_at_call 61; (with_reducible refine (signed_any _ A3 _ c3 _ LQ.out).mono ?_); rintro e w5 ⟨rfl, hbq⟩; (first | have Y5 := hide (Y6.out.next hbq) | have Y5 := hide (X.out.drew.next hbq)); obtain ⟨⟨x1, x2, x3, x4⟩, ⟨y1, y2, y3, y4⟩, z1, z2, z3, z4⟩ := Y5.out.flat)
              | (go_at_call 61; (with_reducible refine (signed_any _ B3 _ d3 _ LR.out).mono ?_); rintro e w6 ⟨rfl, hbr⟩; (first | have Y6 := hide (Y5.out.next hbr) | have Y6 := hide (X.out.drew.next hbr)); obtain ⟨⟨x1, x2, x3, x4⟩, ⟨y1, y2, y3, y4⟩, z1, z2, z3, z4⟩ := Y6.out.flat))
          all_goals
            first
            | (have hB := bl_trans hbq hbr
               have Y := hide (X.out.drew.next hB)
               obtain ⟨⟨x1, x2, x3, x4⟩, ⟨y1, y2, y3, y4⟩, z1, z2, z3, z4⟩ := Y.out.flat
               have sq := bl_keeps hB _ _ s3.drew
               have sr := bl_keeps hB _ _ t3.drew
               have b4 := bl_trans b3.drew hB
               clear hbq hbr hB X s3 t3
               go_wp2
               exact bodyPost_ret (v := .tuple #[.agg #[.bool (false && decide (0 < Q.length)), .slice A3 Q.length c3], .agg #[.bool (s && decide (0 < R.length)), .slice B3 R.length d3], .int .i64 0]) (by simp [results, Tryz.results57, go_sem, y1, y2, z1, z2]) rfl (IThree.mk E.out rfl rfl (sq.store4 Y.out.2.1 Y.out.2.2 (by omega) _ _ _ _) (sr.store4 Y.out.2.1 Y.out.2.2 (by omega) _ _ _ _) (Below.store2 (Below.store2 b4 (by omega) _ _) (by omega) _ _)))
            | (have hB := bl_trans hbr hbq
               have Y := hide (X.out.drew.next hB)
               obtain ⟨⟨x1, x2, x3, x4⟩, ⟨y1, y2, y3, y4⟩, z1, z2, z3, z4⟩ := Y.out.flat
               have sq := bl_keeps hB _ _ s3.drew
               have sr := bl_keeps hB _ _ t3.drew
               have b4 := bl_trans b3.drew hB
               clear hbq hbr hB X s3 t3
               go_wp2
               exact bodyPost_ret (v := .tuple #[.agg #[.bool (false && decide (0 < Q.length)), .slice A3 Q.length c3], .agg #[.bool (s && decide (0 < R.length)), .slice B3 R.length d3], .int .i64 0]) (by simp [results, Tryz.results57, go_sem, y1, y2, z1, z2]) rfl (IThree.mk E.out rfl rfl (sq.store4 Y.out.2.1 Y.out.2.2 (by omega) _ _ _ _) (sr.store4 Y.out.2.1 Y.out.2.2 (by omega) _ _ _ _) (Below.store2 (Below.store2 b4 (by omega) _ _) (by omega) _ _)))
        · cases s with
          | false => cases t with
            | false => exact absurd rfl hst
            | true =>
              have hne : (false != true) = true := rfl
              by_cases hr : 0 < val xs % val ys
              · obtain ⟨e1, e2⟩ := down_more (d := (false != true)) (m := val xs) (n := val ys) ⟨rfl, hr⟩
                rw [e1, e2, hne] at E0
                have E := hide E0
                have hyd := digs_val_norm ly (validB_iff.1 (validI_B hv2)).2
                have hle := Nat.le_of_lt (Nat.mod_lt (val xs) hnp)
                have hm1 : val xs / val ys + 1 < LB ^ 64 := by
                  have h2 : 2 ≤ val ys := by
                    rcases Nat.lt_or_ge (val ys) 2 with h2 | h2
                    · rw [show val ys = 1 by omega, Nat.mod_one] at hr; omega
                    · exact h2
                  have h3 : 0 < val xs := by
                    rcases Nat.eq_zero_or_pos (val xs) with h3 | h3
                    · rw [h3, Nat.zero_mod] at hr; omega
                    · exact h3
                  have := Nat.div_lt_self h3 h2
                  omega
                have hq65 : (digs (val xs / val ys + 1)).length ≤ 64 := length_digs_le.2 hm1
                have hr65 : (digs (val ys - val xs % val ys)).length ≤ 64 := length_digs_le.2 (by omega)
                have NX := hide (fun (A3 B3 : Option Addr) (c3 d3 : Nat) (W : World) (b : Below w.heap.size w W) (h1 : Sl W A3 (digs (val xs / val ys))) (h2 : Sl W B3 (digs (val xs % val ys))) => nextBelow_any A3 B3 B (digs (val xs / val ys)).length (digs (val xs % val ys)).length ys.length c3 d3 d (val xs / val ys) (val xs % val ys) (val ys) W rfl rfl (by rw [hyd]) h1 h2 (by rw [hyd]; exact bl_keeps b _ _ hy) (Nat.lt_of_le_of_lt (Nat.div_le_self _ _) hx64) (Nat.lt_of_le_of_lt hle hy64) hy64 hm1 hle)
                have hrl := digs_len_pos.2 hr
                clear ED E0 e1 e2 h0 hv hv2 hx hy lx ly hp hnp hx64 hy64 hst hr hyd hle hm1
                generalize digs (val xs / val ys) = Q0 at *
                generalize digs (val xs % val ys) = R0 at *
                generalize digs (val xs / val ys + 1) = Q at *
                generalize digs (val ys - val xs % val ys) = R at *
                have LQ := hide (show Q.length ≤ 9223372036854775807 by omega)
                have LR := hide (show R.length ≤ 9223372036854775807 by omega)
                generalize xs.length = n at *
                generalize ys.length = m at *
                go_enter Tryz.func57, Tryz.ntmps57
                go_wp2_with (first | (go_at_call 36; (with_reducible refine (V1.out _ b0).mono ?_); rintro e w1 ⟨rfl, hb⟩; have X := hide (X.out.next hb); obtain ⟨⟨x1, x2, x3, x4⟩, ⟨y1, y2, y3, y4⟩, z1, z2, z3, z4⟩ := X.out.flat; have b1 := bl_trans b0 hb; clear hb) | (go_at_call 36; (with_reducible refine (V2.out _ b1).mono ?_); rintro e w2 ⟨rfl, hb⟩; have X := hide (X.out.next hb); obtain ⟨⟨x1, x2, x3, x4⟩, ⟨y1, y2, y3, y4⟩, z1, z2, z3, z4⟩ := X.out.flat; have b2 := bl_trans b1 hb; clear hb) | (go_at_call 7; (with_reducible refine (D.out _ b2).mono ?_); rintro e w3 h; obtain ⟨A3, c3, B3, d3, rfl, s3, t3, hb⟩ := h.get; have X := hide (X.out.next hb); obtain ⟨⟨x1, x2, x3, x4⟩, ⟨y1, y2, y3, y4⟩, z1, z2, z3, z4⟩ := X.out.flat; have b3 := bl_trans b2 hb; clear h hb) | (go_at_call 90; (with_reducible refine (NX.out A3 B3 c3 d3 _ b3 s3 t3).mono ?_); rintro e w4 ⟨A4, c4, B4, d4, rfl, s3, t3, hb⟩; have X := hide (X.out.next hb); obtain ⟨⟨x1, x2, x3, x4⟩, ⟨y1, y2, y3, y4⟩, z1, z2, z3, z4⟩ := X.out.flat; have b3 := bl_trans b3 hb; clear hb))
                go_region_held3 (fun w' => w'.cell? ⟨w.heap.size, 0, none⟩ = some (.bool false) ∧ w'.cell? ⟨w.heap.size, 1, none⟩ = some (.slice A n c) ∧ w'.cell? ⟨w.heap.size + 1, 0, none⟩ = some (.bool true) ∧ w'.cell? ⟨w.heap.size + 1, 1, none⟩ = some (.slice B m d))
                  (first | exact ⟨x1, x2, x3, x4⟩ | exact S_store12 (by assumption) n2.out n2.out n1.out n1.out | exact S_store12 (by assumption) n4.out n4.out n3.out n3.out | exact S_next12 hbr (by assumption) | exact S_next12 hbq (by assumption) | go_keep)
                  (first
                    | (go_at_call 61; (with_reducible refine (signed_any _ A4 _ c4 _ LQ.out).mono ?_); rintro e w5 ⟨rfl, hbq⟩; (first | have Y5 := hide (Y6.out.next hbq) | have Y5 := hide (X.out.drew.next hbq)); obtain ⟨⟨x1, x2, x3, x4⟩, ⟨y1, y2, y3, y4⟩, z1, z2, z3, z4⟩ := Y5.out.flat)
                    | (go_at_call 61; (with_reducible refine (signed_any _ B4 _ d4 _ LR.out).mono ?_); rintro e w6 ⟨rfl, hbr⟩; (first | have Y6 := hide (Y5.out.next hbr) | have Y6 := hide (X.out.drew.next hbr)); obtain ⟨⟨x1, x2, x3, x4⟩, ⟨y1, y2, y3, y4⟩, z1, z2, z3, z4⟩ := Y6.out.flat))
                all_goals
                  first
                  | (have hB := bl_trans hbq hbr
                     have Y := hide (X.out.drew.next hB)
                     obtain ⟨⟨x1, x2, x3, x4⟩, ⟨y1, y2, y3, y4⟩, z1, z2, z3, z4⟩ := Y.out.flat
                     have sq := bl_keeps hB _ _ s3.drew
                     have sr := bl_keeps hB _ _ t3.drew
                     have b4 := bl_trans b3.drew hB
                     clear hbq hbr hB X s3 t3
                     go_wp2
                     exact bodyPost_ret (v := .tuple #[.agg #[.bool (true && decide (0 < Q.length)), .slice A4 Q.length c4], .agg #[.bool (true && decide (0 < R.length)), .slice B4 R.length d4], .int .i64 0]) (by simp [results, Tryz.results57, go_sem, y1, y2, z1, z2]) rfl (IThree.mk E.out rfl rfl (sq.store4 Y.out.2.1 Y.out.2.2 (by omega) _ _ _ _) (sr.store4 Y.out.2.1 Y.out.2.2 (by omega) _ _ _ _) (Below.store2 (Below.store2 b4 (by omega) _ _) (by omega) _ _)))
                  | (have hB := bl_trans hbr hbq
                     have Y := hide (X.out.drew.next hB)
                     obtain ⟨⟨x1, x2, x3, x4⟩, ⟨y1, y2, y3, y4⟩, z1, z2, z3, z4⟩ := Y.out.flat
                     have sq := bl_keeps hB _ _ s3.drew
                     have sr := bl_keeps hB _ _ t3.drew
                     have b4 := bl_trans b3.drew hB
                     clear hbq hbr hB X s3 t3
                     go_wp2
                     exact bodyPost_ret (v := .tuple #[.agg #[.bool (true && decide (0 < Q.length)), .slice A4 Q.length c4], .agg #[.bool (true && decide (0 < R.length)), .slice B4 R.length d4], .int .i64 0]) (by simp [results, Tryz.results57, go_sem, y1, y2, z1, z2]) rfl (IThree.mk E.out rfl rfl (sq.store4 Y.out.2.1 Y.out.2.2 (by omega) _ _ _ _) (sr.store4 Y.out.2.1 Y.out.2.2 (by omega) _ _ _ _) (Below.store2 (Below.store2 b4 (by omega) _ _) (by omega) _ _)))
              · obtain ⟨e1, e2⟩ := down_plain (d := (false != true)) (m := val xs) (n := val ys) (fun h => hr h.2)
                rw [e1, e2, hne] at E0
                have E := hide E0
                have hR : (digs (val xs % val ys)).length = 0 := by rw [show val xs % val ys = 0 by omega, digs_zero]; rfl
                clear ED E0 e1 e2 h0 hv hv2 hx hy lx ly hp hnp hx64 hy64 hst hr
                generalize digs (val xs / val ys) = Q at *
                generalize digs (val xs % val ys) = R at *
                have LQ := hide (show Q.length ≤ 9223372036854775807 by omega)
                have LR := hide (show R.length ≤ 9223372036854775807 by omega)
                generalize xs.length = n at *
                generalize ys.length = m at *
                obtain rfl : R = [] := List.eq_nil_of_length_eq_zero hR
                clear hR LR
                have LR := hide (show (0 : Nat) ≤ 9223372036854775807 by decide)
                go_enter Tryz.func57, Tryz.ntmps57
                go_wp2_with (first | (go_at_call 36; (with_reducible refine (V1.out _ b0).mono ?_); rintro e w1 ⟨rfl, hb⟩; have X := hide (X.out.next hb); obtain ⟨⟨x1, x2, x3, x4⟩, ⟨y1, y2, y3, y4⟩, z1, z2, z3, z4⟩ := X.out.flat; have b1 := bl_trans b0 hb; clear hb) | (go_at_call 36; (with_reducible refine (V2.out _ b1).mono ?_); rintro e w2 ⟨rfl, hb⟩; have X := hide (X.out.next hb); obtain ⟨⟨x1, x2, x3, x4⟩, ⟨y1, y2, y3, y4⟩, z1, z2, z3, z4⟩ := X.out.flat; have b2 := bl_trans b1 hb; clear hb) | (go_at_call 7; (with_reducible refine (D.out _ b2).mono ?_); rintro e w3 h; obtain ⟨A3, c3, B3, d3, rfl, s3, t3, hb⟩ := h.get; have X := hide (X.out.next hb); obtain ⟨⟨x1, x2, x3, x4⟩, ⟨y1, y2, y3, y4⟩, z1, z2, z3, z4⟩ := X.out.flat; have b3 := bl_trans b2 hb; clear h hb))
                go_region_held3 (fun w' => w'.cell? ⟨w.heap.size, 0, none⟩ = some (.bool false) ∧ w'.cell? ⟨w.heap.size, 1, none⟩ = some (.slice A n c) ∧ w'.cell? ⟨w.heap.size + 1, 0, none⟩ = some (.bool true) ∧ w'.cell? ⟨w.heap.size + 1, 1, none⟩ = some (.slice B m d))
                  (first | exact ⟨x1, x2, x3, x4⟩ | exact S_store12 (by assumption) n2.out n2.out n1.out n1.out | exact S_store12 (by assumption) n4.out n4.out n3.out n3.out | exact S_next12 hbr (by assumption) | exact S_next12 hbq (by assumption) | go_keep)
                  (first
                    | (go_at_call 61; (with_reducible refine (signed_any _ A3 _ c3 _ LQ.out).mono ?_); rintro e w5 ⟨rfl, hbq⟩; (first | have Y5 := hide (Y6.out.next hbq) | have Y5 := hide (X.out.drew.next hbq)); obtain ⟨⟨x1, x2, x3, x4⟩, ⟨y1, y2, y3, y4⟩, z1, z2, z3, z4⟩ := Y5.out.flat)
                    | (go_at_call 61; (with_reducible refine (signed_any _ B3 _ d3 _ LR.out).mono ?_); rintro e w6 ⟨rfl, hbr⟩; (first | have Y6 := hide (Y5.out.next hbr) | have Y6 := hide (X.out.drew.next hbr)); obtain ⟨⟨x1, x2, x3, x4⟩, ⟨y1, y2, y3, y4⟩, z1, z2, z3, z4⟩ := Y6.out.flat))
                all_goals
                  first
                  | (have hB := bl_trans hbq hbr
                     have Y := hide (X.out.drew.next hB)
                     obtain ⟨⟨x1, x2, x3, x4⟩, ⟨y1, y2, y3, y4⟩, z1, z2, z3, z4⟩ := Y.out.flat
                     have sq := bl_keeps hB _ _ s3.drew
                     have sr := bl_keeps hB _ _ t3.drew
                     have b4 := bl_trans b3.drew hB
                     clear hbq hbr hB X s3 t3
                     go_wp2
                     exact bodyPost_ret (v := .tuple #[.agg #[.bool (true && decide (0 < Q.length)), .slice A3 Q.length c3], .agg #[.bool (true && decide (0 < 0)), .slice B3 0 d3], .int .i64 0]) (by simp [results, Tryz.results57, go_sem, y1, y2, z1, z2]) rfl (IThree.mk E.out rfl rfl (sq.store4 Y.out.2.1 Y.out.2.2 (by omega) _ _ _ _) (sr.store4 Y.out.2.1 Y.out.2.2 (by omega) _ _ _ _) (Below.store2 (Below.store2 b4 (by omega) _ _) (by omega) _ _)))
                  | (have hB := bl_trans hbr hbq
                     have Y := hide (X.out.drew.next hB)
                     obtain ⟨⟨x1, x2, x3, x4⟩, ⟨y1, y2, y3, y4⟩, z1, z2, z3, z4⟩ := Y.out.flat
                     have sq := bl_keeps hB _ _ s3.drew
                     have sr := bl_keeps hB _ _ t3.drew
                     have b4 := bl_trans b3.drew hB
                     clear hbq hbr hB X s3 t3
                     go_wp2
                     exact bodyPost_ret (v := .tuple #[.agg #[.bool (true && decide (0 < Q.length)), .slice A3 Q.length c3], .agg #[.bool (true && decide (0 < 0)), .slice B3 0 d3], .int .i64 0]) (by simp [results, Tryz.results57, go_sem, y1, y2, z1, z2]) rfl (IThree.mk E.out rfl rfl (sq.store4 Y.out.2.1 Y.out.2.2 (by omega) _ _ _ _) (sr.store4 Y.out.2.1 Y.out.2.2 (by omega) _ _ _ _) (Below.store2 (Below.store2 b4 (by omega) _ _) (by omega) _ _)))
          | true => cases t with
            | true => exact absurd rfl hst
            | false =>
              have hne : (true != false) = true := rfl
              by_cases hr : 0 < val xs % val ys
              · obtain ⟨e1, e2⟩ := down_more (d := (true != false)) (m := val xs) (n := val ys) ⟨rfl, hr⟩
                rw [e1, e2, hne] at E0
                have E := hide E0
                have hyd := digs_val_norm ly (validB_iff.1 (validI_B hv2)).2
                have hle := Nat.le_of_lt (Nat.mod_lt (val xs) hnp)
                have hm1 : val xs / val ys + 1 < LB ^ 64 := by
                  have h2 : 2 ≤ val ys := by
                    rcases Nat.lt_or_ge (val ys) 2 with h2 | h2
                    · rw [show val ys = 1 by omega, Nat.mod_one] at hr; omega
                    · exact h2
                  have h3 : 0 < val xs := by
                    rcases Nat.eq_zero_or_pos (val xs) with h3 | h3
                    · rw [h3, Nat.zero_mod] at hr; omega
                    · exact h3
                  have := Nat.div_lt_self h3 h2
                  omega
                have hq65 : (digs (val xs / val ys + 1)).length ≤ 64 := length_digs_le.2 hm1
                have hr65 : (digs (val ys - val xs % val ys)).length ≤ 64 := length_digs_le.2 (by omega)
                have NX := hide (fun (A3 B3 : Option Addr) (c3 d3 : Nat) (W : World) (b : Below w.heap.size w W) (h1 : Sl W A3 (digs (val xs / val ys))) (h2 : Sl W B3 (digs (val xs % val ys))) => nextBelow_any A3 B3 B (digs (val xs / val ys)).length (digs (val xs % val ys)).length ys.length c3 d3 d (val xs / val ys) (val xs % val ys) (val ys) W rfl rfl (by rw [hyd]) h1 h2 (by rw [hyd]; exact bl_keeps b _ _ hy) (Nat.lt_of_le_of_lt (Nat.div_le_self _ _) hx64) (Nat.lt_of_le_of_lt hle hy64) hy64 hm1 hle)
                have hrl := digs_len_pos.2 hr
                clear ED E0 e1 e2 h0 hv hv2 hx hy lx ly hp hnp hx64 hy64 hst hr hyd hle hm1
                generalize digs (val xs / val ys) = Q0 at *
                generalize digs (val xs % val ys) = R0 at *
                generalize digs (val xs / val ys + 1) = Q at *
                generalize digs (val ys - val xs % val ys) = R at *
                have LQ := hide (show Q.length ≤ 9223372036854775807 by omega)
                have LR := hide (show R.length ≤ 9223372036854775807 by omega)
                generalize xs.length = n at *
                generalize ys.length = m at *
                go_enter Tryz.func57, Tryz.ntmps57
                go_wp2_with (first | (go_at_call 36; (with_reducible refine (V1.out _ b0).mono ?_); rintro e w1 ⟨rfl, hb⟩; have X := hide (X.out.next hb); obtain ⟨⟨x1, x2, x3, x4⟩, ⟨y1, y2, y3, y4⟩, z1, z2, z3, z4⟩ := X.out.flat; have b1 := bl_trans b0 hb; clear hb) | (go_at_call 36; (with_reducible refine (V2.out _ b1).mono ?_); rintro e w2 ⟨rfl, hb⟩; have X := hide (X.out.next hb); obtain ⟨⟨x1, x2, x3, x4⟩, ⟨y1, y2, y3, y4⟩, z1, z2, z3, z4⟩ := X.out.flat; have b2 := bl_trans b1 hb; clear hb) | (go_at_call 7; (with_reducible refine (D.out _ b2).mono ?_); rintro e w3 h; obtain ⟨A3, c3, B3, d3, rfl, s3, t3, hb⟩ := h.get; have X := hide (X.out.next hb); obtain ⟨⟨x1, x2, x3, x4⟩, ⟨y1, y2, y3, y4⟩, z1, z2, z3, z4⟩ := X.out.flat; have b3 := bl_trans b2 hb; clear h hb) | (go_at_call 90; (with_reducible refine (NX.out A3 B3 c3 d3 _ b3 s3 t3).mono ?_); rintro e w4 ⟨A4, c4, B4, d4, rfl, s3, t3, hb⟩; have X := hide (X.out.next hb); obtain ⟨⟨x1, x2, x3, x4⟩, ⟨y1, y2, y3, y4⟩, z1, z2, z3, z4⟩ := X.out.flat; have b3 := bl_trans b3 hb; clear hb))
                go_region_held3 (fun w' => w'.cell? ⟨w.heap.size, 0, none⟩ = some (.bool true) ∧ w'.cell? ⟨w.heap.size, 1, none⟩ = some (.slice A n c) ∧ w'.cell? ⟨w.heap.size + 1, 0, none⟩ = some (.bool false) ∧ w'.cell? ⟨w.heap.size + 1, 1, none⟩ = some (.slice B m d))
                  (first | exact ⟨x1, x2, x3, x4⟩ | exact S_store12 (by assumption) n2.out n2.out n1.out n1.out | exact S_store12 (by assumption) n4.out n4.out n3.out n3.out | exact S_next12 hbr (by assumption) | exact S_next12 hbq (by assumption) | go_keep)
                  (first
                    | (go_at_call 61; (with_reducible refine (signed_any _ A4 _ c4 _ LQ.out).mono ?_); rintro e w5 ⟨rfl, hbq⟩; (first | have Y5 := hide (Y6.out.next hbq) | have Y5 := hide (X.out.drew.next hbq)); obtain ⟨⟨x1, x2, x3, x4⟩, ⟨y1, y2, y3, y4⟩, z1, z2, z3, z4⟩ := Y5.out.flat)
                    | (go_at_call 61; (with_reducible refine (signed_any _ B4 _ d4 _ LR.out).mono ?_); rintro e w6 ⟨rfl, hbr⟩; (first | have Y6 := hide (Y5.out.next hbr) | have Y6 := hide (X.out.drew.next hbr)); obtain ⟨⟨x1, x2, x3, x4⟩, ⟨y1, y2, y3, y4⟩, z1, z2, z3, z4⟩ := Y6.out.flat))
                all_goals
                  first
                  | (have hB := bl_trans hbq hbr
                     have Y := hide (X.out.drew.next hB)
                     obtain ⟨⟨x1, x2, x3, x4⟩, ⟨y1, y2, y3, y4⟩, z1, z2, z3, z4⟩ := Y.out.flat
                     have sq := bl_keeps hB _ _ s3.drew
                     have sr := bl_keeps hB _ _ t3.drew
                     have b4 := bl_trans b3.drew hB
                     clear hbq hbr hB X s3 t3
                     go_wp2
                     exact bodyPost_ret (v := .tuple #[.agg #[.bool (true && decide (0 < Q.length)), .slice A4 Q.length c4], .agg #[.bool (false && decide (0 < R.length)), .slice B4 R.length d4], .int .i64 0]) (by simp [results, Tryz.results57, go_sem, y1, y2, z1, z2]) rfl (IThree.mk E.out rfl rfl (sq.store4 Y.out.2.1 Y.out.2.2 (by omega) _ _ _ _) (sr.store4 Y.out.2.1 Y.out.2.2 (by omega) _ _ _ _) (Below.store2 (Below.store2 b4 (by omega) _ _) (by omega) _ _)))
                  | (have hB := bl_trans hbr hbq
                     have Y := hide (X.out.drew.next hB)
                     obtain ⟨⟨x1, x2, x3, x4⟩, ⟨y1, y2, y3, y4⟩, z1, z2, z3, z4⟩ := Y.out.flat
                     have sq := bl_keeps hB _ _ s3.drew
                     have sr := bl_keeps hB _ _ t3.drew
                     have b4 := bl_trans b3.drew hB
                     clear hbq hbr hB X s3 t3
                     go_wp2
                     exact bodyPost_ret (v := .tuple #[.agg #[.bool (true && decide (0 < Q.length)), .slice A4 Q.length c4], .agg #[.bool (false && decide (0 < R.length)), .slice B4 R.length d4], .int .i64 0]) (by simp [results, Tryz.results57, go_sem, y1, y2, z1, z2]) rfl (IThree.mk E.out rfl rfl (sq.store4 Y.out.2.1 Y.out.2.2 (by omega) _ _ _ _) (sr.store4 Y.out.2.1 Y.out.2.2 (by omega) _ _ _ _) (Below.store2 (Below.store2 b4 (by omega) _ _) (by omega) _ _)))
              · obtain ⟨e1, e2⟩ := down_plain (d := (true != false)) (m := val xs) (n := val ys) (fun h => hr h.2)
                rw [e1, e2, hne] at E0
                have E := hide E0
                have hR : (digs (val xs % val ys)).length = 0 := by rw [show val xs % val ys = 0 by omega, digs_zero]; rfl
                clear ED E0 e1 e2 h0 hv hv2 hx hy lx ly hp hnp hx64 hy64 hst hr
                generalize digs (val xs / val ys) = Q at *
                generalize digs (val xs % val ys) = R at *
                have LQ := hide (show Q.length ≤ 9223372036854775807 by omega)
                have LR := hide (show R.length ≤ 9223372036854775807 by omega)
                generalize xs.length = n at *
                generalize ys.length = m at *
                obtain rfl : R = [] := List.eq_nil_of_length_eq_zero hR
                clear hR LR
                have LR := hide (show (0 : Nat) ≤ 9223372036854775807 by decide)
                go_enter Tryz.func57, Tryz.ntmps57
                go_wp2_with (first | (go_at_call 36; (with_reducible refine (V1.out _ b0).mono ?_); rintro e w1 ⟨rfl, hb⟩; have X := hide (X.out.next hb); obtain ⟨⟨x1, x2, x3, x4⟩, ⟨y1, y2, y3, y4⟩, z1, z2, z3, z4⟩ := X.out.flat; have b1 := bl_trans b0 hb; clear hb) | (go_at_call 36; (with_reducible refine (V2.out _ b1).mono ?_); rintro e w2 ⟨rfl, hb⟩; have X := hide (X.out.next hb); obtain ⟨⟨x1, x2, x3, x4⟩, ⟨y1, y2, y3, y4⟩, z1, z2, z3, z4⟩ := X.out.flat; have b2 := bl_trans b1 hb; clear hb) | (go_at_call 7; (with_reducible refine (D.out _ b2).mono ?_); rintro e w3 h; obtain ⟨A3, c3, B3, d3, rfl, s3, t3, hb⟩ := h.get; have X := hide (X.out.next hb); obtain ⟨⟨x1, x2, x3, x4⟩, ⟨y1, y2, y3, y4⟩, z1, z2, z3, z4⟩ := X.out.flat; have b3 := bl_trans b2 hb; clear h hb))
                go_region_held3 (fun w' => w'.cell? ⟨w.heap.size, 0, none⟩ = some (.bool true) ∧ w'.cell? ⟨w.heap.size, 1, none⟩ = some (.slice A n c) ∧ w'.cell? ⟨w.heap.size + 1, 0, none⟩ = some (.bool false) ∧ w'.cell? ⟨w.heap.size + 1, 1, none⟩ = some (.slice B m d))
                  (first | exact ⟨x1, x2, x3, x4⟩ | exact S_store12 (by assumption) n2.out n2.out n1.out n1.out | exact S_store12 (by assumption) n4.out n4.out n3.out n3.out | exact S_next12 hbr (by assumption) | exact S_next12 hbq (by assumption) | go_keep)
                  (first
                    | (go_at_call 61; (with_reducible refine (signed_any _ A3 _ c3 _ LQ.out).mono ?_); rintro e w5 ⟨rfl, hbq⟩; (first | have Y5 := hide (Y6.out.next hbq) | have Y5 := hide (X.out.drew.next hbq)); obtain ⟨⟨x1, x2, x3, x4⟩, ⟨y1, y2, y3, y4⟩, z1, z2, z3, z4⟩ := Y5.out.flat)
                    | (go_at_call 61; (with_reducible refine (signed_any _ B3 _ d3 _ LR.out).mono ?_); rintro e w6 ⟨rfl, hbr⟩; (first | have Y6 := hide (Y5.out.next hbr) | have Y6 := hide (X.out.drew.next hbr)); obtain ⟨⟨x1, x2, x3, x4⟩, ⟨y1, y2, y3, y4⟩, z1, z2, z3, z4⟩ := Y6.out.flat))
                all_goals
                  first
                  | (have hB := bl_trans hbq hbr
                     have Y := hide (X.out.drew.next hB)
                     obtain ⟨⟨x1, x2, x3, x4⟩, ⟨y1, y2, y3, y4⟩, z1, z2, z3, z4⟩ := Y.out.flat
                     have sq := bl_keeps hB _ _ s3.drew
                     have sr := bl_keeps hB _ _ t3.drew
                     have b4 := bl_trans b3.drew hB
                     clear hbq hbr hB X s3 t3
                     go_wp2
                     exact bodyPost_ret (v := .tuple #[.agg #[.bool (true && decide (0 < Q.length)), .slice A3 Q.length c3], .agg #[.bool (false && decide (0 < 0)), .slice B3 0 d3], .int .i64 0]) (by simp [results, Tryz.results57, go_sem, y1, y2, z1, z2]) rfl (IThree.mk E.out rfl rfl (sq.store4 Y.out.2.1 Y.out.2.2 (by omega) _ _ _ _) (sr.store4 Y.out.2.1 Y.out.2.2 (by omega) _ _ _ _) (Below.store2 (Below.store2 b4 (by omega) _ _) (by omega) _ _)))
                  | (have hB := bl_trans hbr hbq
                     have Y := hide (X.out.drew.next hB)
                     obtain ⟨⟨x1, x2, x3, x4⟩, ⟨y1, y2, y3, y4⟩, z1, z2, z3, z4⟩ := Y.out.flat
                     have sq := bl_keeps hB _ _ s3.drew
                     have sr := bl_keeps hB _ _ t3.drew
                     have b4 := bl_trans b3.drew hB
                     clear hbq hbr hB X s3 t3
                     go_wp2
                     exact bodyPost_ret (v := .tuple #[.agg #[.bool (true && decide (0 < Q.length)), .slice A3 Q.length c3], .agg #[.bool (false && decide (0 < 0)), .slice B3 0 d3], .int .i64 0]) (by simp [results, Tryz.results57, go_sem, y1, y2, z1, z2]) rfl (IThree.mk E.out rfl rfl (sq.store4 Y.out.2.1 Y.out.2.2 (by omega) _ _ _ _) (sr.store4 Y.out.2.1 Y.out.2.2 (by omega) _ _ _ _) (Below.store2 (Below.store2 b4 (by omega) _ _) (by omega) _ _)))
end Nt
end Go.Proofs.YtodphjnhoinpeaaGreatDoor
