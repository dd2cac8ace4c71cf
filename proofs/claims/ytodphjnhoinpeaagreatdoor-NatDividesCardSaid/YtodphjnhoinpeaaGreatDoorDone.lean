/-
  (limbs.steps).done: what the steps make of two.
-/
import Derived.Test.YtodphjnhoinpeaaGreatDoorSure
import Derived.Test.YtodphjnhoinpeaaGreatDoorDivide
import Derived.Test.YtodphjnhoinpeaaGreatDoorBl
import Derived.Deep.RegionHeld3
namespace Go.Proofs.YtodphjnhoinpeaaGreatDoor
open Go.RowKit
namespace Nt

/-- What was there is as it was. -/
def Kd (w W : World) : Prop := Below w.heap.size w W
theorem Kd.b {w W : World} (k : Kd w W) : Below w.heap.size w W := k
theorem Kd.drew {w W : World} (k : Kd w W) : Kd w W.drew := Below.drew k
theorem D_next {w w' w0 : World} {g : Nat} {v0 v1 v2 v3 v4 : Value} (hb : Below w.heap.size w w')
    (h : w.cell? ⟨g, 0, none⟩ = some v0 ∧ w.cell? ⟨g, 1, none⟩ = some v1 ∧ w.cell? ⟨g, 2, none⟩ = some v2 ∧ w.cell? ⟨g, 3, none⟩ = some v3 ∧ w.cell? ⟨g, 4, none⟩ = some v4 ∧ Kd w0 w) :
    w'.cell? ⟨g, 0, none⟩ = some v0 ∧ w'.cell? ⟨g, 1, none⟩ = some v1 ∧ w'.cell? ⟨g, 2, none⟩ = some v2 ∧ w'.cell? ⟨g, 3, none⟩ = some v3 ∧ w'.cell? ⟨g, 4, none⟩ = some v4 ∧ Kd w0 w' := by
  obtain ⟨h1, h2, h3, h4, h5, h6⟩ := h
  exact ⟨cell_next hb h1, cell_next hb h2, cell_next hb h3, cell_next hb h4, cell_next hb h5, bl_trans h6 hb⟩
theorem kd_of {c1 c2 c3 c4 c5 k : Prop} (h : c1 ∧ c2 ∧ c3 ∧ c4 ∧ c5 ∧ k) : k := h.2.2.2.2.2

set_option maxRecDepth 100000 in
set_option maxHeartbeats 3000000 in
theorem done_any (A B : Option Addr) (n m ca cb a b c d : Nat) (odd : Bool) (xs ys : List Nat) (w : World) (hn : xs.length = n) (hm : ys.length = m) (hx : Sl w A xs) (hy : Sl w B ys) (lx : Limbs xs) (ly : Limbs ys) (hl : n ≤ 10000) (hl' : m ≤ n) (ha : a < LB) (hb : b < LB) (hc : c < LB) (hd : d < LB)
    (f0 : odd = false → b * val ys ≤ a * val xs ∧ c * val xs ≤ d * val ys) (f1 : odd = true → a * val xs ≤ b * val ys ∧ d * val ys ≤ c * val xs) (f2 : lhX a b (val xs) (val ys) odd < LB ^ n) (f3 : lhY c d (val xs) (val ys) odd < LB ^ n) :
    Calls Tryz.prog 86 #[.agg #[.int .u64 (a : Int), .int .u64 (b : Int), .int .u64 (c : Int), .int .u64 (d : Int), .bool odd], .slice A n ca, .slice B m cb] w (Two2 w (digs (lhX a b (val xs) (val ys) odd)) (digs (lhY c d (val xs) (val ys) odd))) := by
  subst hn hm
  have hmx : max xs.length ys.length = xs.length := Nat.max_eq_left hl'
  have hmy : max ys.length xs.length = xs.length := Nat.max_eq_right hl'
  obtain ⟨x1, x2, x3, x4, x5, _⟩ := Sc.new a b c d odd w
  have ks := hide (show Kd w (w.alloc (.cells #[.int .u64 (a : Int), .int .u64 (b : Int), .int .u64 (c : Int), .int .u64 (d : Int), .bool odd] 93)) from bl_al (.refl _ _) _)
  cases odd with
  | true =>
    obtain ⟨p1, p2⟩ := f1 rfl
    have L1 := hide (fun W (h : Below w.heap.size w W) => lessTimes_ok B A cb ca b a ys xs W (bl_keeps h _ _ hy) (bl_keeps h _ _ hx) ly lx (Nat.le_trans hl' hl) hl hb ha _ hmy p1 (by simpa [lhX] using f2))
    have L2 := hide (fun W (h : Below w.heap.size w W) => lessTimes_ok A B ca cb c d xs ys W (bl_keeps h _ _ hx) (bl_keeps h _ _ hy) lx ly hl (Nat.le_trans hl' hl) hc hd _ hmx p2 (by simpa [lhY] using f3))
    have E1 := hide (show lhX a b (val xs) (val ys) true = b * val ys - a * val xs from rfl)
    have E2 := hide (show lhY c d (val xs) (val ys) true = c * val xs - d * val ys from rfl)
    clear f0 f1 f2 f3 p1 p2 hx hy lx ly ha hb hc hd hmx hmy
    generalize b * val ys - a * val xs = r1 at *
    generalize c * val xs - d * val ys = r2 at *
    go_enter Tryz.func86, Tryz.ntmps86
    go_wp2
    go_region_held3 (fun W => W.cell? ⟨w.heap.size, 0, none⟩ = some (.int .u64 (a : Int)) ∧ W.cell? ⟨w.heap.size, 1, none⟩ = some (.int .u64 (b : Int)) ∧ W.cell? ⟨w.heap.size, 2, none⟩ = some (.int .u64 (c : Int)) ∧ W.cell? ⟨w.heap.size, 3, none⟩ = some (.int .u64 (d : Int)) ∧ W.cell? ⟨w.heap.size, 4, none⟩ = some (.bool true) ∧ Kd w W)
      (first | exact ⟨x1, x2, x3, x4, x5, ks.out.drew⟩ | exact D_next hb (by assumption) | assumption)
      (first
        | (go_at_call 111; (with_reducible refine (L1.out _ (Kd.b (kd_of (by assumption)))).mono ?_); rintro e w1 ⟨g1, c1, rfl, o1, hb1⟩; have hb := hb1)
        | (go_at_call 111; (with_reducible refine (L2.out _ (Kd.b (kd_of (by assumption)))).mono ?_); rintro e w2 ⟨g2, c2, rfl, o2, hb2⟩; have hb := hb2))
    all_goals
      have r1' := hide (((o1.below hb2 o1.lt).rebase (Nat.le_trans ks.out.drew.b.size o1.base_le)).row rfl)
      have r2' := hide ((o2.rebase (Nat.le_trans (Nat.le_trans ks.out.drew.b.size hb1.size) o2.base_le)).row rfl)
      have bb := hide (bl_trans (bl_trans ks.out.drew hb1) hb2)
      clear o1 o2 hb hb1 hb2
      go_wp2
      go_ret2
      exact Two2.mk r1'.out r2'.out bb.out (by rw [E1.out]) (by rw [E2.out])
  | false =>
    obtain ⟨p1, p2⟩ := f0 rfl
    have L1 := hide (fun W (h : Below w.heap.size w W) => lessTimes_ok A B ca cb a b xs ys W (bl_keeps h _ _ hx) (bl_keeps h _ _ hy) lx ly hl (Nat.le_trans hl' hl) ha hb _ hmx p1 (by simpa [lhX] using f2))
    have L2 := hide (fun W (h : Below w.heap.size w W) => lessTimes_ok B A cb ca d c ys xs W (bl_keeps h _ _ hy) (bl_keeps h _ _ hx) ly lx (Nat.le_trans hl' hl) hl hd hc _ hmy p2 (by simpa [lhY] using f3))
    have E1 := hide (show lhX a b (val xs) (val ys) false = a * val xs - b * val ys from rfl)
    have E2 := hide (show lhY c d (val xs) (val ys) false = d * val ys - c * val xs from rfl)
    clear f0 f1 f2 f3 p1 p2 hx hy lx ly ha hb hc hd hmx hmy
    generalize a * val xs - b * val ys = r1 at *
    generalize d * val ys - c * val xs = r2 at *
    go_enter Tryz.func86, Tryz.ntmps86
    go_wp2
    go_region_held3 (fun W => W.cell? ⟨w.heap.size, 0, none⟩ = some (.int .u64 (a : Int)) ∧ W.cell? ⟨w.heap.size, 1, none⟩ = some (.int .u64 (b : Int)) ∧ W.cell? ⟨w.heap.size, 2, none⟩ = some (.int .u64 (c : Int)) ∧ W.cell? ⟨w.heap.size, 3, none⟩ = some (.int .u64 (d : Int)) ∧ W.cell? ⟨w.heap.size, 4, none⟩ = some (.bool false) ∧ Kd w W)
      (first | exact ⟨x1, x2, x3, x4, x5, ks.out.drew⟩ | exact D_next hb (by assumption) | assumption)
      (first
        | (go_at_call 111; (with_reducible refine (L1.out _ (Kd.b (kd_of (by assumption)))).mono ?_); rintro e w1 ⟨g1, c1, rfl, o1, hb1⟩; have hb := hb1)
        | (go_at_call 111; (with_reducible refine (L2.out _ (Kd.b (kd_of (by assumption)))).mono ?_); rintro e w2 ⟨g2, c2, rfl, o2, hb2⟩; have hb := hb2))
    all_goals
      have r1' := hide (((o1.below hb2 o1.lt).rebase (Nat.le_trans ks.out.drew.b.size o1.base_le)).row rfl)
      have r2' := hide ((o2.rebase (Nat.le_trans (Nat.le_trans ks.out.drew.b.size hb1.size) o2.base_le)).row rfl)
      have bb := hide (bl_trans (bl_trans ks.out.drew hb1) hb2)
      clear o1 o2 hb hb1 hb2
      go_wp2
      go_ret2
      exact Two2.mk r1'.out r2'.out bb.out (by rw [E1.out]) (by rw [E2.out])
end Nt
end Go.Proofs.YtodphjnhoinpeaaGreatDoor
