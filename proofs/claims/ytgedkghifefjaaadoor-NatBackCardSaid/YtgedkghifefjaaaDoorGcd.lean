/-
  nat.Gcd.
-/
import Derived.Test.YtgedkghifefjaaaDoorLong
import Derived.Test.YtgedkghifefjaaaDoorBl
namespace Go.Proofs.YtgedkghifefjaaaDoor
open Go.RowKit
namespace Nt

/-- What a slice of words reads as. -/
def readV (w : World) : Value → Nat
  | .slice (some ⟨b, o, none⟩) n _ => val ((List.range n).map fun j => match w.cell? ⟨b, o + j, none⟩ with
    | some (.int .u64 z) => z.toNat
    | _ => 0)
  | _ => 0
theorem readV_sl {w : World} {A : Option Addr} {xs : List Nat} (h : Sl w A xs) (n c : Nat) (hn : xs.length = n) : readV w (.slice A n c) = val xs := by
  subst hn
  rcases h with rfl | ⟨b, o, rfl, h⟩
  · rcases A with _ | ⟨b, o, s⟩
    · rfl
    · cases s <;> rfl
  · have e : ((List.range xs.length).map fun j => match w.cell? ⟨b, o + j, none⟩ with
        | some (.int .u64 z) => z.toNat
        | _ => 0) = xs := by
      apply List.ext_getElem
      · rw [List.length_map, List.length_range]
      · intro j h1 h2
        simp only [List.getElem_map, List.getElem_range]
        rw [h.2 j h2, lim_some h2]
        simp
    exact congrArg val e
/-- Two rows that do not lie in one block. -/
def Apart (A B : Option Addr) : Prop := ∀ g h : Nat, A = some ⟨g, 0, none⟩ → B = some ⟨h, 0, none⟩ → g ≠ h
/-- A greatest divisor, as the document says. -/
def gcdSp (xs ys : List Nat) : List Nat × Nat := if validB xs && validB ys then (digs (Nat.gcd (val xs) (val ys)), 0) else ([], 1)
theorem gcdSp_no {xs ys : List Nat} (h : validB xs = false ∨ validB ys = false) : gcdSp xs ys = ([], 1) := by
  unfold gcdSp
  rcases h with h | h <;> simp [h]
theorem gcdSp_ok {xs ys : List Nat} (vx : validB xs = true) (vy : validB ys = true) : gcdSp xs ys = (digs (Nat.gcd (val xs) (val ys)), 0) := by
  unfold gcdSp; rw [vx, vy]; rfl
theorem Apart.rows {w w' : World} {base base' n m c d : Nat} {A B : Option Addr} {xs ys : List Nat} (h : Row w base A n c xs) (k : Row w' base' B m d ys) (hb : w.heap.size ≤ base') : Apart A B := fun g g' e1 e2 => by
  have h1 := (h.lt _ e1).2
  have h2 := (k.lt _ e2).1
  simp only at h1 h2
  omega
theorem digs_lp {n : Nat} : 0 < (digs n).length ↔ 0 < n := by
  constructor
  · intro h
    rcases Nat.eq_zero_or_pos n with h0 | h0
    · subst h0; rw [digs_zero] at h; simp at h
    · exact h0
  · intro h
    rcases Nat.eq_zero_or_pos (digs n).length with h0 | h0
    · have := digs_eq_nil.1 (List.eq_nil_of_length_eq_zero h0); omega
    · exact h0
theorem digs_one_len {y : Nat} (h : (digs y).length = 1) : 0 < y ∧ y < LB ∧ digs y = [y] := by
  have h1 : y < LB ^ 1 := length_digs_le.1 (by omega)
  rw [Nat.pow_one] at h1
  have h0 : y ≠ 0 := by rintro rfl; rw [digs_zero] at h; simp at h
  exact ⟨by omega, h1, digs1 h1 h0⟩
theorem cell_far {w w' : World} {g b o n k : Nat} {v : Value} (hw : Wrote w w' b o n) (hn : g ≠ b) (h : w.cell? ⟨g, k, none⟩ = some v) : w'.cell? ⟨g, k, none⟩ = some v := by
  rw [← h]
  refine World.cell?_of_block (a := ⟨g, k, none⟩) (w := w) (hw.grown.block g ?_ (fun e => hn (by injection e)))
  unfold World.cell? at h
  cases hh : w.heap[g]? with
  | none => rw [hh] at h; cases h
  | some y => exact (Array.getElem?_eq_some_iff.1 hh).1

set_option maxRecDepth 100000 in
set_option maxHeartbeats 2000000 in
theorem gcd_ok (A B : Option Addr) (c d : Nat) (xs ys : List Nat) (w : World) (hx : Sl w A xs) (hy : Sl w B ys) (lx : Limbs xs) (ly : Limbs ys) (vx : validB xs = true) (vy : validB ys = true) :
    Calls Tryd.prog 28 #[.slice A xs.length c, .slice B ys.length d] w (Two w (gcdSp xs ys)) := by
  have hl := (validB_iff.1 vx).1
  have hl' := (validB_iff.1 vy).1
  have V1 := hide (valid_any A c xs w hx (by omega))
  have V2 := hide (valid_any B d ys w hy (by omega))
  rw [vx] at V1
  rw [vy] at V2
  have K1 := hide (clone_any A xs.length c xs w rfl hx (by omega))
  have K2 := hide (fun W (h : Below w.heap.size w W) => clone_any B ys.length d ys W rfl (bl_keeps h _ _ hy) (by omega))
  have E := hide (gcdSp_ok vx vy)
  have DX := hide (digs_val_norm lx (validB_iff.1 vx).2)
  have DY := hide (digs_val_norm ly (validB_iff.1 vy).2)
  have LX : Hid (val xs < LB ^ 64) := Nat.lt_of_lt_of_le (val_lt lx) (Nat.pow_le_pow_right LB_pos hl)
  have LY : Hid (val ys < LB ^ 64) := Nat.lt_of_lt_of_le (val_lt ly) (Nat.pow_le_pow_right LB_pos hl')
  clear hx hy lx ly vx vy
  go_enter Tryd.func28, Tryd.ntmps28
  go_wp2_with (first
    | (go_at_call 24; (first | with_reducible refine (V1.out).mono ?_ | with_reducible refine (V2.out).mono ?_); rintro e w' ⟨rfl, rfl⟩)
    | (go_at_call 65; (with_reducible refine (K1.out).mono ?_); rintro e w1 ⟨A1, c1, rfl, r1, b1⟩)
    | (go_at_call 65; (with_reducible refine (K2.out _ b1).mono ?_); rintro e w2 ⟨A2, c2, rfl, r2, b2⟩))
  have R1 := hide (r1.below b2 (Nat.le_refl _))
  have R2 := hide (r2.rebase b1.size)
  have AP := hide (Apart.rows r1 r2 (Nat.le_refl _))
  have BB := hide (bl_trans b1 b2)
  clear r1 r2 b1 b2
  go_loopw [6, 7] (fun X Y wr => ∃ (A : Option Addr) (n a : Nat) (B : Option Addr) (m b x y : Nat), X = .slice A n a ∧ Y = .slice B m b ∧ Row wr w.heap.size A n a (digs x) ∧ Row wr w.heap.size B m b (digs y) ∧ Apart A B ∧ x < LB ^ 64 ∧ y < LB ^ 64 ∧ Nat.gcd x y = Nat.gcd (val xs) (val ys) ∧ Below w.heap.size w wr) (fun _ Y wr => readV wr Y)
  case atStart => exact ⟨A1, xs.length, c1, A2, ys.length, c2, val xs, val ys, rfl, rfl, by rw [DX.out]; exact R1.out, by rw [DY.out]; exact R2.out, AP.out, LX.out, LY.out, rfl, BB.out⟩
  case round =>
    obtain ⟨A3, n, a, B3, m, b, x, y, rfl, rfl, r1, r2, ap, hx, hy, hg, hb⟩ := hrel
    have hn := r1.len
    have hm := r2.len
    have nb : n ≤ 64 := by rw [← hn]; exact length_digs_le.2 hx
    have mb : m ≤ 64 := by rw [← hm]; exact length_digs_le.2 hy
    by_cases h1 : 1 < m
    · have yp : 0 < y := digs_lp.1 (by omega)
      have DV := divide_all A3 B3 a b (digs x) (digs y) wr r1.sl r2.sl (limbs_digs x) (limbs_digs y) (validB_iff.2 ⟨by omega, norm_digs x⟩) (validB_iff.2 ⟨by omega, norm_digs y⟩) (by omega)
      rw [hn, hm, val_digs, val_digs] at DV
      have DV := hide DV
      have M1 := hide (readV_sl r2.sl m b hm)
      have R1 := hide r2
      have G := hide hg
      have H := hide hb
      have YP := hide yp
      have HY := hide hy
      clear r1 r2 ap hx hy hg hb hn hm yp
      go_wp2_with (go_at_call 63; (with_reducible refine (DV.out).mono ?_); rintro e w3 ⟨A4, n4, c4, B4, m4, d4, rfl, hq, hr, hb⟩; have S1 := hide (R1.out.below hb (Nat.le_refl _)); have S2 := hide (hr.rebase H.out.size); have AP2 := hide (Apart.rows R1.out hr (Nat.le_refl _)); have H2 := hide (bl_trans H.out hb); have M2 := hide (readV_sl hr.sl m4 d4 hr.len); clear hq hr hb)
      go_roundw
      case rel => exact ⟨B3, m, b, B4, m4, d4, y, x % y, rfl, rfl, S1.out, S2.out, AP2.out, HY.out, Nat.lt_trans (Nat.mod_lt _ YP.out) HY.out, by rw [← G.out, Nat.gcd_comm x y, Nat.gcd_rec y x, Nat.gcd_comm], H2.out⟩
      case measure =>
        rw [M1.out, M2.out, val_digs, val_digs]
        exact Nat.mod_lt _ YP.out
    · by_cases h0 : m = 0
      · have hy0 : y = 0 := by
          rcases Nat.eq_zero_or_pos y with h | h
          · exact h
          · have := digs_lp.2 h; omega
        have F := hide (show digs (Nat.gcd (val xs) (val ys)) = digs x by rw [← hg, hy0, Nat.gcd_zero_right])
        have RR := hide r1.res
        have H := hide hb
        clear r1 r2 ap hx hy hg hb hn hm hy0
        subst h0
        go_wp2
        go_ret2
        exact Two.mk E.out (by rw [F.out]; exact RR.out) H.out
      · obtain rfl : m = 1 := by omega
        obtain ⟨yp, yL, hy1⟩ := digs_one_len hm
        obtain ⟨g2, rfl, o2⟩ := r2.pos (by omega)
        rw [hy1] at o2
        have hc2 := o2.cell (j := 0) (by simp)
        have hc2 : wr.cell? ⟨g2, 0, none⟩ = some (.int .u64 (y : Int)) := hc2
        have gl : Nat.gcd y (x % y) = Nat.gcd (val xs) (val ys) := by rw [← hg, Nat.gcd_comm x y, Nat.gcd_rec y x, Nat.gcd_comm]
        have gp : 0 < Nat.gcd (val xs) (val ys) := by rw [← gl]; exact Nat.gcd_pos_of_pos_left _ yp
        have gb : Nat.gcd (val xs) (val ys) < LB := by rw [← gl]; exact Nat.lt_of_le_of_lt (Nat.gcd_le_left _ yp) yL
        have F := hide (show digs (Nat.gcd (val xs) (val ys)) = [Nat.gcd (val xs) (val ys)] from digs1 gb (by omega))
        have GL := hide gl
        have H := hide hb
        have WG := hide (fun W => wordGcd_any y (x % y) yL (Nat.lt_trans (Nat.mod_lt _ yp) yL) W)
        by_cases hn0 : n = 0
        · have hx0 : x = 0 := by
            rcases Nat.eq_zero_or_pos x with h | h
            · exact h
            · have := digs_lp.2 h; omega
          have DN := hide (fun W => dword_nil A3 a y W)
          have WG : Hid (∀ W, Calls Tryd.prog 66 #[.int .u64 (y : Int), .int .u64 0] W (Quiet W (.int .u64 ((Nat.gcd (val xs) (val ys) : Nat) : Int)))) := fun W => by
            have := wordGcd_any y 0 yL LB_pos W
            rw [show Nat.gcd y 0 = Nat.gcd (val xs) (val ys) by rw [← gl, hx0, Nat.zero_mod]] at this
            exact this
          subst hn0
          clear r1 r2 ap hx hy hg hb hn hm hx0 gl GL gp gb o2 hy1 h0 h1
          go_wp2
          go_region_held3 (fun w' => w'.cell? ⟨g2, 0, none⟩ = some (.int .u64 (y : Int)))
            (first | assumption | exact hc2 | go_keep)
            (first
              | (go_at_call 67; (with_reducible refine (DN.out _).mono ?_); rintro e w' ⟨rfl, rfl⟩)
              | (go_at_call 66; (with_reducible refine (WG.out _).mono ?_); rintro e w6 ⟨rfl, q0, rfl⟩))
          all_goals
            go_wp2
            go_ret2
            exact Two.mk E.out (by rw [F.out]; exact (Row.litW _ _ (Nat.zero_le _)).res) (bl_allocs (Below.drewN' H.out _) _)
        · obtain ⟨g1, rfl, o1⟩ := r1.pos (by omega)
          have ne := hide (ap g1 g2 rfl rfl)
          have DW := hide (fun W (h : Own W w.heap.size g1 a (digs x)) => dword_own w.heap.size g1 a y n (digs x) W hn h (limbs_digs x) yp yL (by omega))
          have DR := hide (show dwR (digs x) y = x % y by rw [(dw_val (xs := digs x) yp).2, val_digs])
          have O1 := hide o1
          have G1 := hide o1.base_le
          have WG2 := hide (fun W => (by
            have := WG.out W
            rwa [GL.out] at this : Calls Tryd.prog 66 #[.int .u64 (y : Int), .int .u64 ((x % y : Nat) : Int)] W (Quiet W (.int .u64 ((Nat.gcd (val xs) (val ys) : Nat) : Int)))))
          rw [← DR.out] at WG2
          clear r1 r2 ap hx hy hg hb hn hm gl GL gp gb o1 o2 hy1 h0 h1 hn0 WG DR
          generalize dwR (digs x) y = dr at *
          generalize Nat.gcd (val xs) (val ys) = gg at *
          go_wp2
          go_region_held3 (fun w' => w'.cell? ⟨g2, 0, none⟩ = some (.int .u64 (y : Int)))
            (first | assumption | exact hc2 | exact cell_far wr5 ne.out.symm (by assumption) | go_keep)
            (first
              | (go_at_call 67; (with_reducible refine (DW.out _ (by first | exact O1.out.drew | exact O1.out)).mono ?_); rintro e w5 ⟨rfl, o5, wr5⟩)
              | (go_at_call 66; (with_reducible refine (WG2.out _).mono ?_); rintro e w6 ⟨rfl, q0, rfl⟩))
          all_goals
            have b5 := hide (H.out.drew.trans (wr5.below G1.out (by have := H.out.size; simpa using this)))
            clear o5 wr5
            go_wp2
            go_ret2
            exact Two.mk E.out (by rw [F.out]; exact (Row.litW _ _ (Nat.zero_le _)).res) (bl_allocs (Below.drewN' b5.out _) _)

set_option maxRecDepth 100000 in
set_option maxHeartbeats 400000 in
/-- nat.Gcd: every two rows. -/
theorem gcd_any (A B : Option Addr) (c d : Nat) (xs ys : List Nat) (w : World) (hx : Sl w A xs) (hy : Sl w B ys) (lx : Limbs xs) (ly : Limbs ys) (hl : xs.length ≤ 1000000) (hl' : ys.length ≤ 1000000) :
    Calls Tryd.prog 28 #[.slice A xs.length c, .slice B ys.length d] w (Two w (gcdSp xs ys)) := by
  have V' := hide (valid_any A c xs w hx (by omega))
  have U' := hide (valid_any B d ys w hy (by omega))
  rcases vB (xs := xs) with vx | vx
  · rcases vB (xs := ys) with vy | vy
    · exact gcd_ok A B c d xs ys w hx hy lx ly vx vy
    · have E := hide (gcdSp_no (xs := xs) (.inr vy))
      rw [vx] at V'
      rw [vy] at U'
      go_enter Tryd.func28, Tryd.ntmps28
      go_wp2_with (go_at_call 24; (first | with_reducible refine (V'.out).mono ?_ | with_reducible refine (U'.out).mono ?_); rintro e w' ⟨rfl, rfl⟩)
      go_ret2
      exact Two.mk E.out (.nil _) (.refl _ _)
  · have E := hide (gcdSp_no (ys := ys) (.inl vx))
    rw [vx] at V'
    go_enter Tryd.func28, Tryd.ntmps28
    go_wp2_with (go_at_call 24; (first | with_reducible refine (V'.out).mono ?_ | with_reducible refine (U'.out).mono ?_); rintro e w' ⟨rfl, rfl⟩)
    go_ret2
    exact Two.mk E.out (.nil _) (.refl _ _)
end Nt
end Go.Proofs.YtgedkghifefjaaaDoor
