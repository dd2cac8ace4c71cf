/-
  limbs.sureSteps: the steps that the highest bits tell.
-/
import Derived.Test.YtodphjnhoinpeaaGreatDoorHigh
import Derived.Test.YtodphjnhoinpeaaGreatDoorMathE
import Derived.Test.YtodphjnhoinpeaaGreatDoorWholeA
namespace Go.Proofs.YtodphjnhoinpeaaGreatDoor
open Go.RowKit
namespace Nt

/-- A block that holds steps. -/
def Sc (g a b c d : Nat) (o : Bool) (w : World) : Prop :=
  w.cell? ⟨g, 0, none⟩ = some (.int .u64 (a : Int)) ∧ w.cell? ⟨g, 1, none⟩ = some (.int .u64 (b : Int)) ∧ w.cell? ⟨g, 2, none⟩ = some (.int .u64 (c : Int)) ∧ w.cell? ⟨g, 3, none⟩ = some (.int .u64 (d : Int)) ∧ w.cell? ⟨g, 4, none⟩ = some (.bool o) ∧
  w.frozen? ⟨g, 0, none⟩ = false ∧ w.frozen? ⟨g, 1, none⟩ = false ∧ w.frozen? ⟨g, 2, none⟩ = false ∧ w.frozen? ⟨g, 3, none⟩ = false ∧ w.frozen? ⟨g, 4, none⟩ = false
theorem Sc.next {g a b c d : Nat} {o : Bool} {w w' : World} (x : Sc g a b c d o w) (hb : Below w.heap.size w w') : Sc g a b c d o w' := by
  obtain ⟨h1, h2, h3, h4, h5, f1, f2, f3, f4, f5⟩ := x
  exact ⟨cell_next hb h1, cell_next hb h2, cell_next hb h3, cell_next hb h4, cell_next hb h5, frozen_next hb h1 f1, frozen_next hb h2 f2, frozen_next hb h3 f3, frozen_next hb h4 f4, frozen_next hb h5 f5⟩

theorem Sc.lt {g a b c d : Nat} {o : Bool} {w : World} (x : Sc g a b c d o w) : g < w.heap.size := by
  have h := x.1
  unfold World.cell? at h
  cases hh : w.heap[g]? with
  | none => rw [hh] at h; cases h
  | some y => exact (Array.getElem?_eq_some_iff.1 hh).1
theorem cs_same {w : World} {p : Addr} {v : Value} (h : w.cell? p = some v) (u : Value) : (w.setCell p u).cell? p = some u := World.cell?_setCell_same _ _ _ h
theorem cs_other {w : World} {g h j k : Nat} {v : Value} (hc : w.cell? ⟨g, k, none⟩ = some v) (u : Value) (hne : g ≠ h ∨ k ≠ j) : (w.setCell ⟨h, j, none⟩ u).cell? ⟨g, k, none⟩ = some v :=
  (World.cell?_setCell_other _ _ _ _ (by intro e; injection e with e1 e2; omega)).trans hc
theorem cs_fr {w : World} {p q : Addr} (hf : w.frozen? q = false) (u : Value) : (w.setCell p u).frozen? q = false := (World.frozen?_setCell _ _ _ _).trans hf
theorem Sc.far {g h a b c d j : Nat} {o : Bool} {w : World} (x : Sc g a b c d o w) (hne : g ≠ h) (u : Value) : Sc g a b c d o (w.setCell ⟨h, j, none⟩ u) := by
  obtain ⟨h1, h2, h3, h4, h5, f1, f2, f3, f4, f5⟩ := x
  exact ⟨cs_other h1 u (.inl hne), cs_other h2 u (.inl hne), cs_other h3 u (.inl hne), cs_other h4 u (.inl hne), cs_other h5 u (.inl hne), cs_fr f1 u, cs_fr f2 u, cs_fr f3 u, cs_fr f4 u, cs_fr f5 u⟩
/-- Five cells are stored. -/
def put5 (w : World) (g : Nat) (a b c d : Nat) (o : Bool) : World :=
  ((((w.setCell ⟨g, 0, none⟩ (.int .u64 (a : Int))).setCell ⟨g, 1, none⟩ (.int .u64 (b : Int))).setCell ⟨g, 2, none⟩ (.int .u64 (c : Int))).setCell ⟨g, 3, none⟩ (.int .u64 (d : Int))).setCell ⟨g, 4, none⟩ (.bool o)
theorem Sc.store {g a b c d : Nat} {o : Bool} {w : World} (x : Sc g a b c d o w) (a' b' c' d' : Nat) (o' : Bool) : Sc g a' b' c' d' o' (put5 w g a' b' c' d' o') := by
  obtain ⟨h1, h2, h3, h4, h5, f1, f2, f3, f4, f5⟩ := x
  unfold put5
  refine ⟨?_, ?_, ?_, ?_, ?_, cs_fr (cs_fr (cs_fr (cs_fr (cs_fr f1 _) _) _) _) _, cs_fr (cs_fr (cs_fr (cs_fr (cs_fr f2 _) _) _) _) _, cs_fr (cs_fr (cs_fr (cs_fr (cs_fr f3 _) _) _) _) _, cs_fr (cs_fr (cs_fr (cs_fr (cs_fr f4 _) _) _) _) _, cs_fr (cs_fr (cs_fr (cs_fr (cs_fr f5 _) _) _) _) _⟩
  · exact cs_other (cs_other (cs_other (cs_other (cs_same h1 _) _ (.inr (by decide))) _ (.inr (by decide))) _ (.inr (by decide))) _ (.inr (by decide))
  · exact cs_other (cs_other (cs_other (cs_same (cs_other h2 _ (.inr (by decide))) _) _ (.inr (by decide))) _ (.inr (by decide))) _ (.inr (by decide))
  · exact cs_other (cs_other (cs_same (cs_other (cs_other h3 _ (.inr (by decide))) _ (.inr (by decide))) _) _ (.inr (by decide))) _ (.inr (by decide))
  · exact cs_other (cs_same (cs_other (cs_other (cs_other h4 _ (.inr (by decide))) _ (.inr (by decide))) _ (.inr (by decide))) _) _ (.inr (by decide))
  · exact cs_same (cs_other (cs_other (cs_other (cs_other h5 _ (.inr (by decide))) _ (.inr (by decide))) _ (.inr (by decide))) _ (.inr (by decide))) _
theorem Sc.put_far {g h a b c d a' b' c' d' : Nat} {o o' : Bool} {w : World} (x : Sc g a b c d o w) (hne : g ≠ h) : Sc g a b c d o (put5 w h a' b' c' d' o') :=
  ((((x.far hne _).far hne _).far hne _).far hne _).far hne _
theorem put_below {w w' : World} {h a b c d : Nat} {o : Bool} (b' : Below w.heap.size w w') (hh : w.heap.size ≤ h) : Below w.heap.size w (put5 w' h a b c d o) :=
  ((((b'.setCell hh _).setCell hh _).setCell hh _).setCell hh _).setCell hh _
theorem Sc.new (a b c d : Nat) (o : Bool) (w : World) : Sc w.heap.size a b c d o (w.alloc (.cells #[.int .u64 (a : Int), .int .u64 (b : Int), .int .u64 (c : Int), .int .u64 (d : Int), .bool o] 93)) := by
  have h := cell_new w #[.int .u64 (a : Int), .int .u64 (b : Int), .int .u64 (c : Int), .int .u64 (d : Int), .bool o] 93
  have hn := heap_alloc_new w (.cells #[.int .u64 (a : Int), .int .u64 (b : Int), .int .u64 (c : Int), .int .u64 (d : Int), .bool o] 93)
  exact ⟨h 0, h 1, h 2, h 3, h 4, by unfold World.frozen?; rw [hn]; rfl, by unfold World.frozen?; rw [hn]; rfl, by unfold World.frozen?; rw [hn]; rfl, by unfold World.frozen?; rw [hn]; rfl, by unfold World.frozen?; rw [hn]; rfl⟩

theorem ulss_t (t : TypeId) {x y : Nat} (h : x < y) : binOp .lss t (.int .u64 (x : Int)) (.int .u64 (y : Int)) = pure (.bool true) := by
  show pure (Value.bool (decide ((x : Int) < (y : Int)))) = _
  rw [decide_eq_true (by omega)]
theorem ulss_f (t : TypeId) {x y : Nat} (h : y ≤ x) : binOp .lss t (.int .u64 (x : Int)) (.int .u64 (y : Int)) = pure (.bool false) := by
  show pure (Value.bool (decide ((x : Int) < (y : Int)))) = _
  rw [decide_eq_false (by omega)]
theorem SLE {H L a b c d h l : Nat} {odd : Bool} (s : Lh H L a b c d h l odd) : c * h + a * l ≤ d * h + b * l := by
  rcases s.first with ⟨rfl, rfl, rfl, rfl⟩ | ⟨_, h1, h2, _⟩
  · have := s.le; omega
  · exact Nat.add_le_add (Nat.mul_le_mul_right _ h2) (Nat.mul_le_mul_right _ h1)

set_option maxRecDepth 100000 in
set_option maxHeartbeats 3000000 in
theorem sure_any (A B : Option Addr) (c d m : Nat) (xs ys : List Nat) (w : World) (hx : Sl w A xs) (hy : Sl w B ys) (lx : Limbs xs) (ly : Limbs ys) (hxl : xs.length = m + 2) (hyl : ys.length ≤ m + 2) (hm : m ≤ 10000) (h0 : lim xs (m + 1) ≠ 0) (hle : val ys ≤ val xs) :
    Calls Tryz.prog 85 #[.slice A xs.length c, .slice B ys.length d] w fun e w' => ∃ (a b c d h l H L P x0 y0 : Nat) (odd : Bool), e = .returned (.agg #[.int .u64 (a : Int), .int .u64 (b : Int), .int .u64 (c : Int), .int .u64 (d : Int), .bool odd]) ∧
      Lh H L a b c d h l odd ∧ a < LB ∧ b < LB ∧ c < LB ∧ d < LB ∧ val xs = H * P + x0 ∧ val ys = L * P + y0 ∧ x0 < P ∧ y0 < P ∧ Below w.heap.size w w' := by
  have HI := hide (fun W (h : Below w.heap.size w W) => highest_any A B c d m xs ys W (bl_keeps h _ _ hx) (bl_keeps h _ _ hy) lx ly hxl hyl hm h0 hle)
  have HLE := hide hle
  clear hx hy lx ly h0 hle hxl
  go_enter Tryz.func85, Tryz.ntmps85
  go_wp2_with (go_at_call 110; (with_reducible refine (HI.out _ (bl_al (.refl _ _) _)).mono ?_); rintro e w1 ⟨H, L, P, x0, y0, rfl, e1, e2, e3, e4, e5, e6, q, rfl⟩)
  have hLH : L ≤ H := by
    have := HLE.out
    rw [e1, e2] at this
    rcases Nat.lt_or_ge H L with h | h
    · have := Nat.mul_le_mul_right P h
      rw [Nat.succ_mul] at this
      omega
    · exact h
  have F := hide (show val xs = H * P + x0 ∧ val ys = L * P + y0 ∧ x0 < P ∧ y0 < P from ⟨e1, e2, e3, e4⟩)
  have HL := hide e5
  have ST := hide (Lh.start hLH)
  clear e1 e2 e3 e4 HLE HI hLH hyl e6
  have S0 : Sc w.heap.size 0 0 0 0 false (((w.alloc (.cells #[.int .u64 0, .int .u64 0, .int .u64 0, .int .u64 0, .bool false] 93)).drewN q).alloc (.cells #[.int .u64 1, .int .u64 0, .int .u64 0, .int .u64 1, .bool false] 93)) :=
    Sc.next (w := (w.alloc (.cells #[.int .u64 0, .int .u64 0, .int .u64 0, .int .u64 0, .bool false] 93)).drewN q) (Sc.new 0 0 0 0 false w) (bl_al (.refl _ _) _)
  have S1 : Sc (w.heap.size + 1) 1 0 0 1 false (((w.alloc (.cells #[.int .u64 0, .int .u64 0, .int .u64 0, .int .u64 0, .bool false] 93)).drewN q).alloc (.cells #[.int .u64 1, .int .u64 0, .int .u64 0, .int .u64 1, .bool false] 93)) := by
    have := Sc.new 1 0 0 1 false ((w.alloc (.cells #[.int .u64 0, .int .u64 0, .int .u64 0, .int .u64 0, .bool false] 93)).drewN q)
    rwa [show ((w.alloc (.cells #[.int .u64 0, .int .u64 0, .int .u64 0, .int .u64 0, .bool false] 93)).drewN q).heap.size = w.heap.size + 1 from size1 _ _] at this
  have B0 : Below w.heap.size w (((w.alloc (.cells #[.int .u64 0, .int .u64 0, .int .u64 0, .int .u64 0, .bool false] 93)).drewN q).alloc (.cells #[.int .u64 1, .int .u64 0, .int .u64 0, .int .u64 1, .bool false] 93)) :=
    bl_al (Below.drewN' (bl_al (.refl _ _) _) _) _
  generalize ((w.alloc (.cells #[.int .u64 0, .int .u64 0, .int .u64 0, .int .u64 0, .bool false] 93)).drewN q).alloc (.cells #[.int .u64 1, .int .u64 0, .int .u64 0, .int .u64 1, .bool false] 93) = W0 at *
  have S0 := hide S0
  have S1 := hide S1
  have B0 := hide B0
  go_loopw [5, 6] (fun hi lo wr => ∃ (a b c d h l : Nat) (odd : Bool), hi = .int .u64 (h : Nat) ∧ lo = .int .u64 (l : Nat) ∧ Lh H L a b c d h l odd ∧ a < LB ∧ b < LB ∧ c < LB ∧ d < LB ∧ h < LB ∧ Sc w.heap.size 0 0 0 0 false wr ∧ Sc (w.heap.size + 1) a b c d odd wr ∧ Below w.heap.size w wr) (fun _ lo _ => (intOf lo).toNat)
  case atStart => exact ⟨1, 0, 0, 1, H, L, false, rfl, rfl, ST.out, by rw [LB_eq]; omega, LB_pos, LB_pos, by rw [LB_eq]; omega, HL.out, S0.out, S1.out, B0.out⟩
  case round =>
    obtain ⟨a, b, c, d, h, l, odd, rfl, rfl, lh, ha, hb, hc, hd, hh, s0, s1, bb⟩ := hrel
    have END : Hid (∀ W, Sc w.heap.size a b c d odd W → Below w.heap.size w W → ∃ (a' b' c' d' h l H L P x0 y0 : Nat) (odd' : Bool), Ending.returned (.agg #[.int .u64 (a : Int), .int .u64 (b : Int), .int .u64 (c : Int), .int .u64 (d : Int), .bool odd]) = .returned (.agg #[.int .u64 (a' : Int), .int .u64 (b' : Int), .int .u64 (c' : Int), .int .u64 (d' : Int), .bool odd']) ∧
      Lh H L a' b' c' d' h l odd' ∧ a' < LB ∧ b' < LB ∧ c' < LB ∧ d' < LB ∧ val xs = H * P + x0 ∧ val ys = L * P + y0 ∧ x0 < P ∧ y0 < P ∧ Below w.heap.size w W) :=
      fun W _ hB => ⟨a, b, c, d, h, l, H, L, P, x0, y0, odd, rfl, lh, ha, hb, hc, hd, F.out.1, F.out.2.1, F.out.2.2.1, F.out.2.2.2, hB⟩
    obtain ⟨x1, x2, x3, x4, x5, f1, f2, f3, f4, f5⟩ := id s1
    obtain ⟨z1, z2, z3, z4, z5, g1, g2, g3, g4, g5⟩ := id s0
    have S0 := hide s0
    have S1 := hide s1
    have BB := hide bb
    clear s0 s1 bb
    by_cases hl0 : l = 0
    · subst hl0
      clear lh ha hb hc hd hh
      go_wp2
      have Z := S0.out.store a b c d odd
      have ZB := put_below (a := a) (b := b) (c := c) (d := d) (o := odd) BB.out (Nat.le_refl _)
      change bodyPost _ _ _ _ _ (put5 _ w.heap.size a b c d odd)
      generalize put5 _ w.heap.size a b c d odd = W at Z ZB ⊢
      obtain ⟨y1, y2, y3, y4, y5, _⟩ := id Z
      exact bodyPost_ret (v := .agg #[.int .u64 (a : Int), .int .u64 (b : Int), .int .u64 (c : Int), .int .u64 (d : Int), .bool odd]) (by simp [results, Tryz.results85, go_sem, y1, y2, y3, y4, y5]) rfl (END.out W Z ZB)
    · have hlp : 0 < l := by omega
      have e0 : ((l : Int) != 0) = true := by simp; omega
      obtain ⟨r1, r2, r3, r4⟩ := lh.room hlp
      have r5 := lh.room2 hlp
      have STEP := hide (fun k1 k2 => lh.step hlp k1 k2)
      have hcL : a + h / l * c < LB := by
        have := lh.le
        have h1 := HL.out
        have : L ≤ H := by rw [lh.hH, lh.hL]; exact SLE lh
        omega
      have hdL : b + h / l * d < LB := by (have h1 := HL.out; omega)
      obtain ⟨n, hn⟩ : ∃ n, n = h / l := ⟨_, rfl⟩
      obtain ⟨r, hr⟩ : ∃ r, r = h % l := ⟨_, rfl⟩
      have o1 : binOp .quo 56 (.int .u64 (h : Int)) (.int .u64 (l : Int)) = pure (.int .u64 (n : Int)) := by rw [hn]; exact op_quo _ h l hh hlp
      have o2 : binOp .rem 56 (.int .u64 (h : Int)) (.int .u64 (l : Int)) = pure (.int .u64 (r : Int)) := by rw [hr]; exact op_rem _ h l hlp
      have rl : r < l := by rw [hr]; exact Nat.mod_lt _ hlp
      rw [← hn, ← hr] at STEP
      rw [← hn] at hcL hdL r1 r2 r3 r4 r5
      obtain ⟨p1, hp1⟩ : ∃ p, p = n * c := ⟨_, rfl⟩
      obtain ⟨p2, hp2⟩ : ∃ p, p = n * d := ⟨_, rfl⟩
      rw [← hp1] at STEP hcL r2
      rw [← hp2] at STEP hdL r1 r4 r5
      obtain ⟨c2, hc2⟩ : ∃ p, p = a + p1 := ⟨_, rfl⟩
      obtain ⟨d2, hd2⟩ : ∃ p, p = b + p2 := ⟨_, rfl⟩
      rw [← hc2] at STEP hcL
      rw [← hd2] at STEP hdL r4 r5
      have o3 : binOp .mul 56 (.int .u64 (n : Int)) (.int .u64 (c : Int)) = pure (.int .u64 (p1 : Int)) := op_mul_lt _ n c p1 hp1 (by omega)
      have o4 : binOp .mul 56 (.int .u64 (n : Int)) (.int .u64 (d : Int)) = pure (.int .u64 (p2 : Int)) := op_mul_lt _ n d p2 hp2 (by omega)
      have o5 : binOp .add 56 (.int .u64 (a : Int)) (.int .u64 (p1 : Int)) = pure (.int .u64 (c2 : Int)) := op_add_lt _ a p1 c2 hc2 hcL
      have o6 : binOp .add 56 (.int .u64 (b : Int)) (.int .u64 (p2 : Int)) = pure (.int .u64 (d2 : Int)) := op_add_lt _ b p2 d2 hd2 hdL
      obtain ⟨z, hz⟩ : ∃ z, z + r = l := ⟨l - r, by omega⟩
      have lL : l < LB := Nat.lt_of_le_of_lt lh.le hh
      have o7 : binOp .sub 56 (.int .u64 (l : Int)) (.int .u64 (r : Int)) = pure (.int .u64 (z : Int)) := op_sub_le _ l r z hz lL
      have FACT := hide (show c2 < LB ∧ d2 < LB ∧ l < LB ∧ r < l ∧ z + r = l from ⟨hcL, hdL, lL, rl, hz⟩)
      have CD := hide (show c < LB ∧ d < LB from ⟨hc, hd⟩)
      have S2 := hide (fun k => (show Sc w.heap.size 0 0 0 0 false (wr.drewN k) ∧ Sc (w.heap.size + 1) a b c d odd (wr.drewN k) ∧ Below w.heap.size w (wr.drewN k) from ⟨S0.out, S1.out, Below.drewN' BB.out k⟩))
      clear S0 S1 BB x1 x2 x3 x4 x5 f1 f2 f3 f4 f5 z1 z2 z3 z4 z5 g1 g2 g3 g4 g5
      by_cases k1 : r < d2
      · have ob : binOp .lss 56 (.int .u64 (r : Int)) (.int .u64 (d2 : Int)) = pure (.bool true) := ulss_t _ k1
        clear hl0 hlp lh ha hb hc hd hh r1 r2 r3 r4 r5 hcL hdL hn hr rl hp1 hp2 hc2 hd2 hz lL STEP FACT CD k1
        go_wp2
        go_quiet (fail)
        generalize hW : wr.drewN _ = w2
        obtain ⟨s0, s1, bb⟩ : Sc w.heap.size 0 0 0 0 false w2 ∧ Sc (w.heap.size + 1) a b c d odd w2 ∧ Below w.heap.size w w2 := by rw [← hW]; exact S2.out _
        clear hW S2
        have hsz : w.heap.size + 1 < w2.heap.size := s1.lt
        obtain ⟨x1, x2, x3, x4, x5, f1, f2, f3, f4, f5⟩ := id s1
        have N0 := hide (s0.next (bl_al (.refl _ _) (.cells #[.int .u64 (c : Int), .int .u64 (d : Int), .int .u64 (c2 : Int), .int .u64 (d2 : Int), .bool !odd] 93)))
        have N1 := hide (s1.next (bl_al (.refl _ _) (.cells #[.int .u64 (c : Int), .int .u64 (d : Int), .int .u64 (c2 : Int), .int .u64 (d2 : Int), .bool !odd] 93)))
        have N2 := hide (Sc.new c d c2 d2 (!odd) w2)
        have NB := hide (bl_al bb (.cells #[.int .u64 (c : Int), .int .u64 (d : Int), .int .u64 (c2 : Int), .int .u64 (d2 : Int), .bool !odd] 93))
        obtain ⟨y1, y2, y3, y4, y5, h1, h2, h3, h4, h5⟩ := N1.out
        obtain ⟨z1, z2, z3, z4, z5, g1, g2, g3, g4, g5⟩ := N0.out
        have H0 := hide s0
        have H1 := hide s1
        have HB := hide bb
        clear s0 s1 bb
        go_wp2
        have Z := N0.out.store a b c d odd
        have ZB := put_below (a := a) (b := b) (c := c) (d := d) (o := odd) NB.out (Nat.le_refl _)
        change bodyPost _ _ _ _ _ (put5 _ w.heap.size a b c d odd)
        generalize put5 _ w.heap.size a b c d odd = W at Z ZB ⊢
        obtain ⟨y1, y2, y3, y4, y5, _⟩ := id Z
        exact bodyPost_ret (v := .agg #[.int .u64 (a : Int), .int .u64 (b : Int), .int .u64 (c : Int), .int .u64 (d : Int), .bool odd]) (by simp [results, Tryz.results85, go_sem, y1, y2, y3, y4, y5]) rfl (END.out W Z ZB)
      · have ob : binOp .lss 56 (.int .u64 (r : Int)) (.int .u64 (d2 : Int)) = pure (.bool false) := ulss_f _ (by omega)
        obtain ⟨e, he⟩ : ∃ e, e = d + d2 := ⟨_, rfl⟩
        have eL : e < LB := by
          have := HL.out
          rcases r5 (by omega) with h1 | h1
          · omega
          · rw [LB_eq]; omega
        have o8 : binOp .add 56 (.int .u64 (d : Int)) (.int .u64 (d2 : Int)) = pure (.int .u64 (e : Int)) := op_add_lt _ d d2 e he eL
        by_cases k2 : z < e
        · have oc : binOp .lss 56 (.int .u64 (z : Int)) (.int .u64 (e : Int)) = pure (.bool true) := ulss_t _ k2
          clear hl0 hlp lh ha hb hc hd hh r1 r2 r3 r4 r5 hcL hdL hn hr rl hp1 hp2 hc2 hd2 hz lL STEP FACT CD k1 k2 he eL
          go_wp2
          go_quiet (fail)
          generalize hW : wr.drewN _ = w2
          obtain ⟨s0, s1, bb⟩ : Sc w.heap.size 0 0 0 0 false w2 ∧ Sc (w.heap.size + 1) a b c d odd w2 ∧ Below w.heap.size w w2 := by rw [← hW]; exact S2.out _
          clear hW S2
          have hsz : w.heap.size + 1 < w2.heap.size := s1.lt
          obtain ⟨x1, x2, x3, x4, x5, f1, f2, f3, f4, f5⟩ := id s1
          have N0 := hide (s0.next (bl_al (.refl _ _) (.cells #[.int .u64 (c : Int), .int .u64 (d : Int), .int .u64 (c2 : Int), .int .u64 (d2 : Int), .bool !odd] 93)))
          have N1 := hide (s1.next (bl_al (.refl _ _) (.cells #[.int .u64 (c : Int), .int .u64 (d : Int), .int .u64 (c2 : Int), .int .u64 (d2 : Int), .bool !odd] 93)))
          have N2 := hide (Sc.new c d c2 d2 (!odd) w2)
          have NB := hide (bl_al bb (.cells #[.int .u64 (c : Int), .int .u64 (d : Int), .int .u64 (c2 : Int), .int .u64 (d2 : Int), .bool !odd] 93))
          obtain ⟨y1, y2, y3, y4, y5, h1, h2, h3, h4, h5⟩ := N1.out
          obtain ⟨z1, z2, z3, z4, z5, g1, g2, g3, g4, g5⟩ := N0.out
          have H0 := hide s0
          have H1 := hide s1
          have HB := hide bb
          clear s0 s1 bb
          go_wp2
          have Z := N0.out.store a b c d odd
          have ZB := put_below (a := a) (b := b) (c := c) (d := d) (o := odd) NB.out (Nat.le_refl _)
          change bodyPost _ _ _ _ _ (put5 _ w.heap.size a b c d odd)
          generalize put5 _ w.heap.size a b c d odd = W at Z ZB ⊢
          obtain ⟨y1, y2, y3, y4, y5, _⟩ := id Z
          exact bodyPost_ret (v := .agg #[.int .u64 (a : Int), .int .u64 (b : Int), .int .u64 (c : Int), .int .u64 (d : Int), .bool odd]) (by simp [results, Tryz.results85, go_sem, y1, y2, y3, y4, y5]) rfl (END.out W Z ZB)
        · have oc : binOp .lss 56 (.int .u64 (z : Int)) (.int .u64 (e : Int)) = pure (.bool false) := ulss_f _ (by omega)
          have K1 := hide (show d2 ≤ r by omega)
          have K2 := hide (show d + d2 + r ≤ l by omega)
          clear hl0 hlp lh ha hb hc hd hh r1 r2 r3 r4 r5 hcL hdL hn hr rl hp1 hp2 hc2 hd2 hz lL k1 k2 he eL
          go_wp2
          go_quiet (fail)
          generalize hW : wr.drewN _ = w2
          obtain ⟨s0, s1, bb⟩ : Sc w.heap.size 0 0 0 0 false w2 ∧ Sc (w.heap.size + 1) a b c d odd w2 ∧ Below w.heap.size w w2 := by rw [← hW]; exact S2.out _
          clear hW S2
          have hsz : w.heap.size + 1 < w2.heap.size := s1.lt
          obtain ⟨x1, x2, x3, x4, x5, f1, f2, f3, f4, f5⟩ := id s1
          have N0 := hide (s0.next (bl_al (.refl _ _) (.cells #[.int .u64 (c : Int), .int .u64 (d : Int), .int .u64 (c2 : Int), .int .u64 (d2 : Int), .bool !odd] 93)))
          have N1 := hide (s1.next (bl_al (.refl _ _) (.cells #[.int .u64 (c : Int), .int .u64 (d : Int), .int .u64 (c2 : Int), .int .u64 (d2 : Int), .bool !odd] 93)))
          have N2 := hide (Sc.new c d c2 d2 (!odd) w2)
          have NB := hide (bl_al bb (.cells #[.int .u64 (c : Int), .int .u64 (d : Int), .int .u64 (c2 : Int), .int .u64 (d2 : Int), .bool !odd] 93))
          obtain ⟨y1, y2, y3, y4, y5, h1, h2, h3, h4, h5⟩ := N1.out
          obtain ⟨z1, z2, z3, z4, z5, g1, g2, g3, g4, g5⟩ := N0.out
          have H0 := hide s0
          have H1 := hide s1
          have HB := hide bb
          clear s0 s1 bb
          go_wp2
          go_roundw
          case rel =>
            have AL := bl_al (.refl _ (put5 w2 (w.heap.size + 1) c d c2 d2 (!odd))) (.cells #[.int .u64 (c : Int), .int .u64 (d : Int), .int .u64 (c2 : Int), .int .u64 (d2 : Int), .bool !odd] 93)
            have Z1 := (H1.out.store c d c2 d2 (!odd)).next AL
            have Z0 := (H0.out.put_far (h := w.heap.size + 1) (a' := c) (b' := d) (c' := c2) (d' := d2) (o' := !odd) (by omega)).next AL
            have ZB := bl_al (put_below (h := w.heap.size + 1) (a := c) (b := d) (c := c2) (d := d2) (o := !odd) HB.out (by omega)) (.cells #[.int .u64 (c : Int), .int .u64 (d : Int), .int .u64 (c2 : Int), .int .u64 (d2 : Int), .bool !odd] 93)
            exact ⟨c, d, c2, d2, l, r, !odd, rfl, rfl, STEP.out K1.out K2.out, CD.out.1, CD.out.2, FACT.out.1, FACT.out.2.1, FACT.out.2.2.1, Z0, Z1, ZB⟩
          case measure => (have := FACT.out.2.2.2.1; simp [intOf]; omega)
end Nt
end Go.Proofs.YtodphjnhoinpeaaGreatDoor
