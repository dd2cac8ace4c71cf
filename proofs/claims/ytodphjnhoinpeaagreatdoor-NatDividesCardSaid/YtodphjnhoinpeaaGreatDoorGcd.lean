/-
  limbs.Gcd, nat.Gcd.
-/
import Derived.Test.YtodphjnhoinpeaaGreatDoorDone
import Derived.Test.YtodphjnhoinpeaaGreatDoorLong
import Derived.Test.YtodphjnhoinpeaaGreatDoorBl
namespace Go.Proofs.YtodphjnhoinpeaaGreatDoor
open Go.RowKit
namespace Nt

/-- What a slice of words reads as. -/
def readV (w : World) : Value → Nat
  | .slice (some ⟨b, o, none⟩) n _ => val ((List.range n).map fun j => match w.cell? ⟨b, o + j, none⟩ with
    | some (.int .u64 z) => z.toNat
    | _ => 0)
  | _ => 0
theorem readV_sl {w : World} {A : Option Addr} {xs : List Nat} (h : Sl w A xs) (n c : Nat) (hn : xs.length = n) : readV w (.slice A n c) = val xs := by
  subst hn
  rcases h with rfl | ⟨b, o, rfl, h⟩
  · rcases A with _ | ⟨b, o, s⟩
    · rfl
    · cases s <;> rfl
  · have e : ((List.range xs.length).map fun j => match w.cell? ⟨b, o + j, none⟩ with
        | some (.int .u64 z) => z.toNat
        | _ => 0) = xs := by
      apply List.ext_getElem
      · rw [List.length_map, List.length_range]
      · intro j h1 h2
        simp only [List.getElem_map, List.getElem_range]
        rw [h.2 j h2, lim_some h2]
        simp
    exact congrArg val e
theorem digs_lp {n : Nat} : 0 < (digs n).length ↔ 0 < n := by
  constructor
  · intro h
    rcases Nat.eq_zero_or_pos n with h0 | h0
    · subst h0; rw [digs_zero] at h; simp at h
    · exact h0
  · intro h
    rcases Nat.eq_zero_or_pos (digs n).length with h0 | h0
    · have := digs_eq_nil.1 (List.eq_nil_of_length_eq_zero h0); omega
    · exact h0
theorem digs_one_len {y : Nat} (h : (digs y).length = 1) : 0 < y ∧ y < LB ∧ digs y = [y] := by
  have h1 : y < LB ^ 1 := length_digs_le.1 (by omega)
  rw [Nat.pow_one] at h1
  have h0 : y ≠ 0 := by rintro rfl; rw [digs_zero] at h; simp at h
  exact ⟨by omega, h1, digs1 h1 h0⟩
theorem Kd.q (w : World) (k : Nat) : Kd w (w.drewN k) := bl_q0 rfl
theorem Kd.qa (w : World) (k : Nat) (X : Obj) : Below w.heap.size w ((w.drewN k).alloc X) := bl_al (bl_q0 rfl) X
theorem K_next {w w' w0 : World} {p : Addr} {v : Value} (hb : Below w.heap.size w w') (h : w.cell? p = some v ∧ Kd w0 w) : w'.cell? p = some v ∧ Kd w0 w' := ⟨cell_next hb h.1, bl_trans h.2 hb⟩

set_option maxRecDepth 100000 in
set_option maxHeartbeats 4000000 in
theorem lgcd_less (A B : Option Addr) (c d : Nat) (xs ys : List Nat) (w : World) (hx : Sl w A xs) (hy : Sl w B ys) (lx : Limbs xs) (ly : Limbs ys) (nx : Norm xs) (ny : Norm ys) (hl : xs.length ≤ 10000) (hl' : ys.length ≤ 10000) (ho : val xs < val ys) :
    Calls Tryz.prog 47 #[.slice A xs.length c, .slice B ys.length d] w (Mk w (digs (Nat.gcd (val xs) (val ys)))) := by
  have C := hide (lcmp_any A B c d xs ys w hx hy lx ly nx ny (by omega) (by omega))
  have DX := hide (digs_val_norm lx nx)
  have DY := hide (digs_val_norm ly ny)
  rw [cmpN_lt ho] at C
  have HO := hide ho
  have SX := hide (fun q => hx.drewN q)
  have SY := hide (fun q => hy.drewN q)
  clear hx hy lx ly nx ny ho
  go_enter Tryz.func47, Tryz.ntmps47
  go_wp2_with (go_at_call 71; (with_reducible refine (C.out).mono ?_); rintro e w1 ⟨rfl, q0, rfl⟩)
  clear C
  go_loopw [5, 6] (fun X Y wr => ∃ (A : Option Addr) (n a : Nat) (B : Option Addr) (m b x y : Nat), X = .slice A n a ∧ Y = .slice B m b ∧ Sl wr A (digs x) ∧ Sl wr B (digs y) ∧ (digs x).length = n ∧ (digs y).length = m ∧ n ≤ 10000 ∧ y ≤ x ∧ Nat.gcd x y = Nat.gcd (val xs) (val ys) ∧ Below w.heap.size w wr) (fun _ Y wr => readV wr Y)
  case atStart => exact ⟨B, ys.length, d, A, xs.length, c, val ys, val xs, rfl, rfl, by rw [DY.out]; exact SY.out _, by rw [DX.out]; exact SX.out _, by rw [DY.out], by rw [DX.out], hl', Nat.le_of_lt HO.out, Nat.gcd_comm _ _, bl_q0 rfl⟩
  case round =>
    obtain ⟨A3, n, a, B3, m, b, x, y, rfl, rfl, hx, hy, hn, hm, hnb, hxy, hg, hb⟩ := hrel
    have hmn : m ≤ n := by rw [← hm, ← hn]; exact len_le_of_val (limbs_digs x) (norm_digs y) (by rw [val_digs, val_digs]; exact hxy)
    have mb : m ≤ 10000 := by omega
    by_cases h1 : 1 < m
    · obtain ⟨k, hk⟩ : ∃ k, n = k + 2 := ⟨n - 2, by omega⟩
      have yp : 0 < y := digs_lp.1 (by omega)
      have top : lim (digs x) (k + 1) ≠ 0 := by
        rcases norm_digs x with h | h
        · rw [h] at hn; simp at hn; omega
        · rwa [hn, hk, show k + 2 - 1 = k + 1 by omega] at h
      have SU := hide (fun W (h : Below wr.heap.size wr W) => sure_any A3 B3 a b k (digs x) (digs y) W (bl_keeps h _ _ hx) (bl_keeps h _ _ hy) (limbs_digs x) (limbs_digs y) (by omega) (by omega) (by omega) top (by rw [val_digs, val_digs]; exact hxy))
      rw [hn, hm, val_digs, val_digs] at SU
      have DV := fun W (h : Below wr.heap.size wr W) => divide_all A3 B3 a b (digs x) (digs y) W (bl_keeps h _ _ hx) (bl_keeps h _ _ hy) (limbs_digs x) (limbs_digs y) (norm_digs x) (norm_digs y) (by omega) (by omega) (by omega)
      rw [hn, hm, val_digs, val_digs] at DV
      have DV := hide DV
      have DN : Hid (∀ W, Below wr.heap.size wr W → ∀ (a' b' c' d' : Nat) (odd : Bool), a' < LB → b' < LB → c' < LB → d' < LB → (odd = false → b' * y ≤ a' * x ∧ c' * x ≤ d' * y) → (odd = true → a' * x ≤ b' * y ∧ d' * y ≤ c' * x) → lhX a' b' x y odd ≤ y → lhY c' d' x y odd ≤ y →
          Calls Tryz.prog 86 #[.agg #[.int .u64 (a' : Int), .int .u64 (b' : Int), .int .u64 (c' : Int), .int .u64 (d' : Int), .bool odd], .slice A3 n a, .slice B3 m b] W (Two2 W (digs (lhX a' b' x y odd)) (digs (lhY c' d' x y odd)))) := by
        intro W h a' b' c' d' odd h1 h2 h3 h4 f0 f1 f2 f3
        have hyl : y < LB ^ n := Nat.lt_of_lt_of_le (length_digs_le.1 (Nat.le_of_eq hm)) (Nat.pow_le_pow_right LB_pos hmn)
        have := done_any A3 B3 n m a b a' b' c' d' odd (digs x) (digs y) W hn hm (bl_keeps h _ _ hx) (bl_keeps h _ _ hy) (limbs_digs x) (limbs_digs y) hnb hmn h1 h2 h3 h4
        rw [val_digs, val_digs] at this
        exact this f0 f1 (Nat.lt_of_le_of_lt f2 hyl) (Nat.lt_of_le_of_lt f3 hyl)
      have M1 := hide (readV_sl hy m b hm)
      have YS := hide hy
      have G := hide hg
      have H := hide hb
      have YP := hide yp
      have XY := hide hxy
      have HM := hide hm
      have HN := hide hnb
      have HMN := hide hmn
      have HNN := hide hn
      clear hx hy hxy hg hb hn hm yp top hk hnb hmn mb
      go_wp2_with (first
        | (go_at_call 85; (with_reducible refine (SU.out _ (.refl _ _)).mono ?_); rintro e w1 ⟨a', b', c', d', h, l, HH, LL, P, x0, y0, odd, rfl, lh, ba, bb, bc, bd, e1, e2, e3, e4, hb1⟩; have B1 := hide (fun X => bl_al hb1 X); have LE := hide (fun h0 => lh.leads h0 e1 e2 e3 e4); have BA := hide (show a' < LB ∧ b' < LB ∧ c' < LB ∧ d' < LB from ⟨ba, bb, bc, bd⟩); clear lh ba bb bc bd e1 e2 e3 e4 hb1; rcases Nat.eq_zero_or_pos b' with rfl | hb0)
        | (go_at_call 44; (with_reducible refine (DV.out _ (B1.out _)).mono ?_); rintro e w3 ⟨A4, n4, c4', B4, m4, d4, rfl, hq, hr, hb3⟩; have HQ := hide hq; have HR := hide hr; have HB3 := hide (bl_trans (B1.out _) hb3); clear hq hr hb3)
        | (go_at_call 86; (with_reducible refine (DN.out _ (B1.out _) a' b' c' d' odd BA.out.1 BA.out.2.1 BA.out.2.2.1 BA.out.2.2.2 (LE.out (Nat.ne_of_gt hb0)).1 (LE.out (Nat.ne_of_gt hb0)).2.1 (LE.out (Nat.ne_of_gt hb0)).2.2.2.1 (Nat.le_trans (Nat.le_of_lt (LE.out (Nat.ne_of_gt hb0)).2.2.1) (LE.out (Nat.ne_of_gt hb0)).2.2.2.1)).mono ?_); rintro e w3 ⟨A4, n4, c4', B4, m4, d4, rfl, hq, hr, hb3⟩; have HQ := hide hq; have HR := hide hr; have HB3 := hide (bl_trans (B1.out _) hb3); clear hq hr hb3))
      · clear DN SU DV LE BA B1
        go_roundw
        case rel => exact ⟨B3, m, b, B4, m4, d4, y, x % y, rfl, rfl, bl_keeps HB3.out _ _ YS.out, HR.out.sl, HM.out, HR.out.len, Nat.le_trans HMN.out HN.out, Nat.le_of_lt (Nat.mod_lt _ YP.out), by rw [← G.out, Nat.gcd_comm x y, Nat.gcd_rec y x, Nat.gcd_comm], bl_trans H.out HB3.out⟩
        case measure =>
          have M2 := readV_sl HR.out.sl m4 d4 HR.out.len
          rw [M1.out, M2, val_digs, val_digs]
          exact Nat.mod_lt _ YP.out
      · have LE := hide (LE.out (Nat.ne_of_gt hb0))
        clear DN SU DV BA B1 hb0
        have NL := hide (show n4 ≤ 10000 from by
          rw [← HQ.out.len]
          refine Nat.le_trans (length_digs_le.2 (Nat.lt_of_le_of_lt LE.out.2.2.2.1 (length_digs_le.1 (Nat.le_of_eq HM.out)))) (Nat.le_trans HMN.out HN.out))
        go_roundw
        case rel => exact ⟨A4, n4, c4', B4, m4, d4, _, _, rfl, rfl, HQ.out.sl, HR.out.sl, HQ.out.len, HR.out.len, NL.out, Nat.le_of_lt LE.out.2.2.1, LE.out.2.2.2.2.trans G.out, bl_trans H.out HB3.out⟩
        case measure =>
          have M2 := readV_sl HR.out.sl m4 d4 HR.out.len
          rw [M1.out, M2, val_digs, val_digs]
          exact Nat.lt_of_lt_of_le LE.out.2.2.1 LE.out.2.2.2.1
    · by_cases h0 : m = 0
      · have hy0 : y = 0 := by
          rcases Nat.eq_zero_or_pos y with h | h
          · exact h
          · have := digs_lp.2 h; omega
        have F := hide (show digs (Nat.gcd (val xs) (val ys)) = digs x by rw [← hg, hy0, Nat.gcd_zero_right])
        have K := hide (clone_any A3 n a (digs x) wr hn hx (by omega))
        have H := hide hb
        clear hx hy hxy hg hb hn hm hy0 hmn
        subst h0
        go_wp2_with (go_at_call 69; (with_reducible refine (K.out).mono ?_); rintro e w2 ⟨A5, c5, rfl, hr5, hb5⟩)
        go_ret
        rw [F.out]
        exact Mk.trans H.out ⟨A5, c5, rfl, hr5, hb5⟩
      · obtain rfl : m = 1 := by omega
        obtain ⟨yp, yL, hy1⟩ := digs_one_len hm
        rw [hy1] at hy
        obtain ⟨g2, o2, rfl, ho2⟩ := hy.at_ (by simp)
        have hc2 : wr.cell? ⟨g2, o2, none⟩ = some (.int .u64 (y : Int)) := ho2.cell (j := 0) (by simp)
        have gl : Nat.gcd y (x % y) = Nat.gcd (val xs) (val ys) := by rw [← hg, Nat.gcd_comm x y, Nat.gcd_rec y x, Nat.gcd_comm]
        have gp : 0 < Nat.gcd (val xs) (val ys) := by rw [← gl]; exact Nat.gcd_pos_of_pos_left _ yp
        have gb : Nat.gcd (val xs) (val ys) < LB := by rw [← gl]; exact Nat.lt_of_le_of_lt (Nat.gcd_le_left _ yp) yL
        have F := hide (show digs (Nat.gcd (val xs) (val ys)) = [Nat.gcd (val xs) (val ys)] from digs1 gb (by omega))
        have H := hide hb
        have DR : dwR (digs x) y = x % y := by rw [(dw_val (xs := digs x) yp).2, val_digs]
        have MW := hide (fun W (h : Below wr.heap.size wr W) => modWord_any A3 a y n (digs x) W hn (bl_keeps h _ _ hx) (limbs_digs x) yp yL (by omega))
        rw [DR] at MW
        have WG := hide (fun W => wordGcd_any y (x % y) yL (Nat.lt_trans (Nat.mod_lt _ yp) yL) W)
        rw [gl] at WG
        have cl := hide (fun W (h : Below wr.heap.size wr W) => cell_next h hc2)
        clear hx hy hxy hg hb hn hm gl gp gb ho2 hy1 h0 h1 hmn DR
        generalize x % y = dr at *
        generalize Nat.gcd (val xs) (val ys) = gg at *
        go_wp2
        go_region_held3 (fun W => W.cell? ⟨g2, o2, none⟩ = some (.int .u64 (y : Int)) ∧ Kd wr W)
          (first | exact ⟨hc2, Kd.drew (.refl _ _)⟩ | exact ⟨hc2, Kd.q _ _⟩ | exact ⟨cl.out _ (Kd.qa _ _ _), Kd.qa _ _ _⟩ | exact K_next hb (by assumption) | assumption)
          (first
            | (go_at_call 88; (with_reducible refine (MW.out _ (Kd.b (And.right (by assumption)))).mono ?_); rintro e w5 ⟨rfl, q5, h5⟩; have hb := bl_q0 h5)
            | (go_at_call 87; (with_reducible refine (WG.out _).mono ?_); rintro e w6 ⟨rfl, q6, h6⟩; have hb := bl_q0 h6))
        all_goals
          clear MW WG cl h5 h6
          go_wp2
          go_ret
          rw [F.out]
          exact Mk.trans H.out (Mk.intro ((Row.litW _ _ (Nat.le_refl _)).row rfl) (Kd.qa _ _ _) rfl)
set_option maxRecDepth 100000 in
set_option maxHeartbeats 4000000 in
theorem lgcd_more (A B : Option Addr) (c d : Nat) (xs ys : List Nat) (w : World) (hx : Sl w A xs) (hy : Sl w B ys) (lx : Limbs xs) (ly : Limbs ys) (nx : Norm xs) (ny : Norm ys) (hl : xs.length ≤ 10000) (hl' : ys.length ≤ 10000) (ho : val ys ≤ val xs) :
    Calls Tryz.prog 47 #[.slice A xs.length c, .slice B ys.length d] w (Mk w (digs (Nat.gcd (val xs) (val ys)))) := by
  have C := hide (lcmp_any A B c d xs ys w hx hy lx ly nx ny (by omega) (by omega))
  have DX := hide (digs_val_norm lx nx)
  have DY := hide (digs_val_norm ly ny)
  have CZ : 0 ≤ cmpN (val xs) (val ys) := by
    unfold cmpN
    rw [if_neg (by omega)]
    split <;> omega
  generalize cmpN (val xs) (val ys) = z at *
  have HO := hide ho
  have SX := hide (fun q => hx.drewN q)
  have SY := hide (fun q => hy.drewN q)
  clear hx hy lx ly nx ny ho
  go_enter Tryz.func47, Tryz.ntmps47
  go_wp2_with (go_at_call 71; (with_reducible refine (C.out).mono ?_); rintro e w1 ⟨rfl, q0, rfl⟩)
  clear C
  go_loopw [5, 6] (fun X Y wr => ∃ (A : Option Addr) (n a : Nat) (B : Option Addr) (m b x y : Nat), X = .slice A n a ∧ Y = .slice B m b ∧ Sl wr A (digs x) ∧ Sl wr B (digs y) ∧ (digs x).length = n ∧ (digs y).length = m ∧ n ≤ 10000 ∧ y ≤ x ∧ Nat.gcd x y = Nat.gcd (val xs) (val ys) ∧ Below w.heap.size w wr) (fun _ Y wr => readV wr Y)
  case atStart => exact ⟨A, xs.length, c, B, ys.length, d, val xs, val ys, rfl, rfl, by rw [DX.out]; exact SX.out _, by rw [DY.out]; exact SY.out _, by rw [DX.out], by rw [DY.out], hl, HO.out, rfl, bl_q0 rfl⟩
  case round =>
    obtain ⟨A3, n, a, B3, m, b, x, y, rfl, rfl, hx, hy, hn, hm, hnb, hxy, hg, hb⟩ := hrel
    have hmn : m ≤ n := by rw [← hm, ← hn]; exact len_le_of_val (limbs_digs x) (norm_digs y) (by rw [val_digs, val_digs]; exact hxy)
    have mb : m ≤ 10000 := by omega
    by_cases h1 : 1 < m
    · obtain ⟨k, hk⟩ : ∃ k, n = k + 2 := ⟨n - 2, by omega⟩
      have yp : 0 < y := digs_lp.1 (by omega)
      have top : lim (digs x) (k + 1) ≠ 0 := by
        rcases norm_digs x with h | h
        · rw [h] at hn; simp at hn; omega
        · rwa [hn, hk, show k + 2 - 1 = k + 1 by omega] at h
      have SU := hide (fun W (h : Below wr.heap.size wr W) => sure_any A3 B3 a b k (digs x) (digs y) W (bl_keeps h _ _ hx) (bl_keeps h _ _ hy) (limbs_digs x) (limbs_digs y) (by omega) (by omega) (by omega) top (by rw [val_digs, val_digs]; exact hxy))
      rw [hn, hm, val_digs, val_digs] at SU
      have DV := fun W (h : Below wr.heap.size wr W) => divide_all A3 B3 a b (digs x) (digs y) W (bl_keeps h _ _ hx) (bl_keeps h _ _ hy) (limbs_digs x) (limbs_digs y) (norm_digs x) (norm_digs y) (by omega) (by omega) (by omega)
      rw [hn, hm, val_digs, val_digs] at DV
      have DV := hide DV
      have DN : Hid (∀ W, Below wr.heap.size wr W → ∀ (a' b' c' d' : Nat) (odd : Bool), a' < LB → b' < LB → c' < LB → d' < LB → (odd = false → b' * y ≤ a' * x ∧ c' * x ≤ d' * y) → (odd = true → a' * x ≤ b' * y ∧ d' * y ≤ c' * x) → lhX a' b' x y odd ≤ y → lhY c' d' x y odd ≤ y →
          Calls Tryz.prog 86 #[.agg #[.int .u64 (a' : Int), .int .u64 (b' : Int), .int .u64 (c' : Int), .int .u64 (d' : Int), .bool odd], .slice A3 n a, .slice B3 m b] W (Two2 W (digs (lhX a' b' x y odd)) (digs (lhY c' d' x y odd)))) := by
        intro W h a' b' c' d' odd h1 h2 h3 h4 f0 f1 f2 f3
        have hyl : y < LB ^ n := Nat.lt_of_lt_of_le (length_digs_le.1 (Nat.le_of_eq hm)) (Nat.pow_le_pow_right LB_pos hmn)
        have := done_any A3 B3 n m a b a' b' c' d' odd (digs x) (digs y) W hn hm (bl_keeps h _ _ hx) (bl_keeps h _ _ hy) (limbs_digs x) (limbs_digs y) hnb hmn h1 h2 h3 h4
        rw [val_digs, val_digs] at this
        exact this f0 f1 (Nat.lt_of_le_of_lt f2 hyl) (Nat.lt_of_le_of_lt f3 hyl)
      have M1 := hide (readV_sl hy m b hm)
      have YS := hide hy
      have G := hide hg
      have H := hide hb
      have YP := hide yp
      have XY := hide hxy
      have HM := hide hm
      have HN := hide hnb
      have HMN := hide hmn
      have HNN := hide hn
      clear hx hy hxy hg hb hn hm yp top hk hnb hmn mb
      go_wp2_with (first
        | (go_at_call 85; (with_reducible refine (SU.out _ (.refl _ _)).mono ?_); rintro e w1 ⟨a', b', c', d', h, l, HH, LL, P, x0, y0, odd, rfl, lh, ba, bb, bc, bd, e1, e2, e3, e4, hb1⟩; have B1 := hide (fun X => bl_al hb1 X); have LE := hide (fun h0 => lh.leads h0 e1 e2 e3 e4); have BA := hide (show a' < LB ∧ b' < LB ∧ c' < LB ∧ d' < LB from ⟨ba, bb, bc, bd⟩); clear lh ba bb bc bd e1 e2 e3 e4 hb1; rcases Nat.eq_zero_or_pos b' with rfl | hb0)
        | (go_at_call 44; (with_reducible refine (DV.out _ (B1.out _)).mono ?_); rintro e w3 ⟨A4, n4, c4', B4, m4, d4, rfl, hq, hr, hb3⟩; have HQ := hide hq; have HR := hide hr; have HB3 := hide (bl_trans (B1.out _) hb3); clear hq hr hb3)
        | (go_at_call 86; (with_reducible refine (DN.out _ (B1.out _) a' b' c' d' odd BA.out.1 BA.out.2.1 BA.out.2.2.1 BA.out.2.2.2 (LE.out (Nat.ne_of_gt hb0)).1 (LE.out (Nat.ne_of_gt hb0)).2.1 (LE.out (Nat.ne_of_gt hb0)).2.2.2.1 (Nat.le_trans (Nat.le_of_lt (LE.out (Nat.ne_of_gt hb0)).2.2.1) (LE.out (Nat.ne_of_gt hb0)).2.2.2.1)).mono ?_); rintro e w3 ⟨A4, n4, c4', B4, m4, d4, rfl, hq, hr, hb3⟩; have HQ := hide hq; have HR := hide hr; have HB3 := hide (bl_trans (B1.out _) hb3); clear hq hr hb3))
      · clear DN SU DV LE BA B1
        go_roundw
        case rel => exact ⟨B3, m, b, B4, m4, d4, y, x % y, rfl, rfl, bl_keeps HB3.out _ _ YS.out, HR.out.sl, HM.out, HR.out.len, Nat.le_trans HMN.out HN.out, Nat.le_of_lt (Nat.mod_lt _ YP.out), by rw [← G.out, Nat.gcd_comm x y, Nat.gcd_rec y x, Nat.gcd_comm], bl_trans H.out HB3.out⟩
        case measure =>
          have M2 := readV_sl HR.out.sl m4 d4 HR.out.len
          rw [M1.out, M2, val_digs, val_digs]
          exact Nat.mod_lt _ YP.out
      · have LE := hide (LE.out (Nat.ne_of_gt hb0))
        clear DN SU DV BA B1 hb0
        have NL := hide (show n4 ≤ 10000 from by
          rw [← HQ.out.len]
          refine Nat.le_trans (length_digs_le.2 (Nat.lt_of_le_of_lt LE.out.2.2.2.1 (length_digs_le.1 (Nat.le_of_eq HM.out)))) (Nat.le_trans HMN.out HN.out))
        go_roundw
        case rel => exact ⟨A4, n4, c4', B4, m4, d4, _, _, rfl, rfl, HQ.out.sl, HR.out.sl, HQ.out.len, HR.out.len, NL.out, Nat.le_of_lt LE.out.2.2.1, LE.out.2.2.2.2.trans G.out, bl_trans H.out HB3.out⟩
        case measure =>
          have M2 := readV_sl HR.out.sl m4 d4 HR.out.len
          rw [M1.out, M2, val_digs, val_digs]
          exact Nat.lt_of_lt_of_le LE.out.2.2.1 LE.out.2.2.2.1
    · by_cases h0 : m = 0
      · have hy0 : y = 0 := by
          rcases Nat.eq_zero_or_pos y with h | h
          · exact h
          · have := digs_lp.2 h; omega
        have F := hide (show digs (Nat.gcd (val xs) (val ys)) = digs x by rw [← hg, hy0, Nat.gcd_zero_right])
        have K := hide (clone_any A3 n a (digs x) wr hn hx (by omega))
        have H := hide hb
        clear hx hy hxy hg hb hn hm hy0 hmn
        subst h0
        go_wp2_with (go_at_call 69; (with_reducible refine (K.out).mono ?_); rintro e w2 ⟨A5, c5, rfl, hr5, hb5⟩)
        go_ret
        rw [F.out]
        exact Mk.trans H.out ⟨A5, c5, rfl, hr5, hb5⟩
      · obtain rfl : m = 1 := by omega
        obtain ⟨yp, yL, hy1⟩ := digs_one_len hm
        rw [hy1] at hy
        obtain ⟨g2, o2, rfl, ho2⟩ := hy.at_ (by simp)
        have hc2 : wr.cell? ⟨g2, o2, none⟩ = some (.int .u64 (y : Int)) := ho2.cell (j := 0) (by simp)
        have gl : Nat.gcd y (x % y) = Nat.gcd (val xs) (val ys) := by rw [← hg, Nat.gcd_comm x y, Nat.gcd_rec y x, Nat.gcd_comm]
        have gp : 0 < Nat.gcd (val xs) (val ys) := by rw [← gl]; exact Nat.gcd_pos_of_pos_left _ yp
        have gb : Nat.gcd (val xs) (val ys) < LB := by rw [← gl]; exact Nat.lt_of_le_of_lt (Nat.gcd_le_left _ yp) yL
        have F := hide (show digs (Nat.gcd (val xs) (val ys)) = [Nat.gcd (val xs) (val ys)] from digs1 gb (by omega))
        have H := hide hb
        have DR : dwR (digs x) y = x % y := by rw [(dw_val (xs := digs x) yp).2, val_digs]
        have MW := hide (fun W (h : Below wr.heap.size wr W) => modWord_any A3 a y n (digs x) W hn (bl_keeps h _ _ hx) (limbs_digs x) yp yL (by omega))
        rw [DR] at MW
        have WG := hide (fun W => wordGcd_any y (x % y) yL (Nat.lt_trans (Nat.mod_lt _ yp) yL) W)
        rw [gl] at WG
        have cl := hide (fun W (h : Below wr.heap.size wr W) => cell_next h hc2)
        clear hx hy hxy hg hb hn hm gl gp gb ho2 hy1 h0 h1 hmn DR
        generalize x % y = dr at *
        generalize Nat.gcd (val xs) (val ys) = gg at *
        go_wp2
        go_region_held3 (fun W => W.cell? ⟨g2, o2, none⟩ = some (.int .u64 (y : Int)) ∧ Kd wr W)
          (first | exact ⟨hc2, Kd.drew (.refl _ _)⟩ | exact ⟨hc2, Kd.q _ _⟩ | exact ⟨cl.out _ (Kd.qa _ _ _), Kd.qa _ _ _⟩ | exact K_next hb (by assumption) | assumption)
          (first
            | (go_at_call 88; (with_reducible refine (MW.out _ (Kd.b (And.right (by assumption)))).mono ?_); rintro e w5 ⟨rfl, q5, h5⟩; have hb := bl_q0 h5)
            | (go_at_call 87; (with_reducible refine (WG.out _).mono ?_); rintro e w6 ⟨rfl, q6, h6⟩; have hb := bl_q0 h6))
        all_goals
          clear MW WG cl h5 h6
          go_wp2
          go_ret
          rw [F.out]
          exact Mk.trans H.out (Mk.intro ((Row.litW _ _ (Nat.le_refl _)).row rfl) (Kd.qa _ _ _) rfl)

/-- Two rows' greatest divisor, whatever their length. -/
theorem lgcd_any (A B : Option Addr) (c d : Nat) (xs ys : List Nat) (w : World) (hx : Sl w A xs) (hy : Sl w B ys) (lx : Limbs xs) (ly : Limbs ys) (nx : Norm xs) (ny : Norm ys) (hl : xs.length ≤ 10000) (hl' : ys.length ≤ 10000) :
    Calls Tryz.prog 47 #[.slice A xs.length c, .slice B ys.length d] w (Mk w (digs (Nat.gcd (val xs) (val ys)))) := by
  rcases Nat.lt_or_ge (val xs) (val ys) with h | h
  · exact lgcd_less A B c d xs ys w hx hy lx ly nx ny hl hl' h
  · exact lgcd_more A B c d xs ys w hx hy lx ly nx ny hl hl' h

/-- A greatest divisor, as the document says. -/
def gcdSp (xs ys : List Nat) : List Nat × Nat := if validB xs && validB ys then (digs (Nat.gcd (val xs) (val ys)), 0) else ([], 1)
theorem gcdSp_no {xs ys : List Nat} (h : validB xs = false ∨ validB ys = false) : gcdSp xs ys = ([], 1) := by
  unfold gcdSp
  rcases h with h | h <;> simp [h]
theorem gcdSp_ok {xs ys : List Nat} (vx : validB xs = true) (vy : validB ys = true) : gcdSp xs ys = (digs (Nat.gcd (val xs) (val ys)), 0) := by
  unfold gcdSp; rw [vx, vy]; rfl

set_option maxRecDepth 100000 in
set_option maxHeartbeats 400000 in
/-- nat.Gcd: every two rows. -/
theorem gcd_any (A B : Option Addr) (c d : Nat) (xs ys : List Nat) (w : World) (hx : Sl w A xs) (hy : Sl w B ys) (lx : Limbs xs) (ly : Limbs ys) (hl : xs.length ≤ 1000000) (hl' : ys.length ≤ 1000000) :
    Calls Tryz.prog 9 #[.slice A xs.length c, .slice B ys.length d] w (Two w (gcdSp xs ys)) := by
  have V' := hide (valid_any A c xs w hx (by omega))
  have U' := hide (valid_any B d ys w hy (by omega))
  rcases vB (xs := xs) with vx | vx
  · rcases vB (xs := ys) with vy | vy
    · have E := hide (gcdSp_ok vx vy)
      have L := hide (lgcd_any A B c d xs ys w hx hy lx ly (validB_iff.1 vx).2 (validB_iff.1 vy).2 (Nat.le_trans (validB_iff.1 vx).1 (by decide)) (Nat.le_trans (validB_iff.1 vy).1 (by decide)))
      rw [vx] at V'
      rw [vy] at U'
      clear hx hy lx ly vx vy
      go_enter Tryz.func9, Tryz.ntmps9
      go_wp2_with (first
        | (go_at_call 14; (first | with_reducible refine (V'.out).mono ?_ | with_reducible refine (U'.out).mono ?_); rintro e w' ⟨rfl, rfl⟩)
        | (go_at_call 47; (with_reducible refine (L.out).mono ?_); rintro e w1 ⟨A1, c1, rfl, hr, hb⟩; have O := hide hr.res; have BB := hide hb; clear hr hb))
      go_ret2
      exact Two.mk E.out O.out BB.out
    · have E := hide (gcdSp_no (xs := xs) (.inr vy))
      rw [vx] at V'
      rw [vy] at U'
      go_enter Tryz.func9, Tryz.ntmps9
      go_wp2_with (go_at_call 14; (first | with_reducible refine (V'.out).mono ?_ | with_reducible refine (U'.out).mono ?_); rintro e w' ⟨rfl, rfl⟩)
      go_ret2
      exact Two.mk E.out (.nil _) (.refl _ _)
  · have E := hide (gcdSp_no (ys := ys) (.inl vx))
    rw [vx] at V'
    go_enter Tryz.func9, Tryz.ntmps9
    go_wp2_with (go_at_call 14; (first | with_reducible refine (V'.out).mono ?_ | with_reducible refine (U'.out).mono ?_); rintro e w' ⟨rfl, rfl⟩)
    go_ret2
    exact Two.mk E.out (.nil _) (.refl _ _)
end Nt
end Go.Proofs.YtodphjnhoinpeaaGreatDoor
