import Derived.Test.YthabfakbdfaciaaGreatNB17
import Derived.Test.YthabfakbdfaciaaGreatNB8
import Derived.Deep.DeepCutAuto
import Derived.Deep.CutBlock
import Derived.Test.YthabfakbdfaciaaGreatRows
import Derived.Test.YthabfakbdfaciaaGreatNB16
import Derived.WalkKit
import Derived.ProofKit
import Derived.OpenShut
import Derived.Lay
import Derived.Stop.LaidErr
import Derived.Deep.DeepHandedRow
import Derived.Lib.LaidTab
import Derived.Lib.SmallJoins
namespace Go.Proofs.YthabfakbdfaciaaGreat
namespace Nt
set_option maxRecDepth 100000
set_option linter.unusedSimpArgs false
set_option linter.unusedVariables false
section
open Go.ChangeShapes Go.RowKit
def lgD (op : Int) (ar : List Int) (so : Int) : Nd := ⟨op, ⟨#[]⟩, false, [], [], ar, so, 0⟩
def lgC (c : UInt8) (so : Int) : Nd := ⟨12, ⟨#[c]⟩, false, [], [], [], so, 0⟩
def lgN : List Nd := [lgC 112 0, lgC 113 0, lgC 120 1, lgC 121 1, lgD 4 [0, 1] 0, lgD 5 [0, 1] 0, lgD 6 [0, 1] 0, lgD 7 [0, 1] 0, lgD 8 [0, 1] 0, lgD 9 [0, 1] 0, lgD 17 [2, 3] 0, lgD 18 [2, 3] 0, lgD 19 [2, 3] 0, lgD 20 [2, 3] 0, lgD 8 [2, 3] 0, lgD 9 [2, 3] 0, lgD 3 [0] 0, lgD 10 [16, 2, 3] 1]
def lgS : List ByteArray := [⟨#[112]⟩, ⟨#[113]⟩, ⟨#[120]⟩, ⟨#[121]⟩]
def bV (b : Bool) : Vl := ⟨0, b, ⟨false, none, 0, [], none, 0, [], 0⟩, 0⟩
theorem bV_few (b : Bool) : (bV b).Few := ⟨⟨by simp [bV, Limbs], by simp [bV, Limbs], by simp [bV], by simp [bV]⟩, by simp [bV], by simp [bV]⟩
theorem bV_at (b : Bool) (W : World) : (bV b).At W := ⟨.inl rfl, .inl rfl⟩
def lgT (p q : Bool) (rx ry : Pt) : List Tr := [⟨⟨#[112]⟩, none, [], 0, bV p⟩, ⟨⟨#[113]⟩, none, [], 0, bV q⟩, ⟨⟨#[120]⟩, none, [], 0, nmV rx⟩, ⟨⟨#[121]⟩, none, [], 0, nmV ry⟩]
def lgA (p q : Bool) : List Bool := [p && q, p || q, !p || q, p != q, p == q, p != q]
def lgB (x y : Int) : List Bool := [decide (x ≤ y), decide (x < y), decide (y ≤ x), decide (y < x), decide (x = y), decide (x ≠ y)]
def lgV (p q : Bool) (x y : Int) : List CV := [tv p, tv q, cq (Rat.divInt x 7), cq (Rat.divInt y 7)] ++ (lgA p q).map tv ++ (lgB x y).map tv ++ [tv (!p), if (!p) = true then cq (Rat.divInt x 7) else cq (Rat.divInt y 7)]
def lgW : List Nat := [1, 1, 1, 1, 3, 3, 3, 3, 3, 3, 3, 3, 3, 3, 3, 3, 2, 5]
theorem lg_args : ∀ i (h : i < lgN.length), ∀ a ∈ lgN[i].ar, 0 ≤ a ∧ a < (i : Int) := by
  have h : ∀ i : _root_.Fin lgN.length, ∀ a ∈ lgN[i].ar, 0 ≤ a ∧ a < ((i : Nat) : Int) := by decide
  exact fun i hi => h ⟨i, hi⟩
theorem lg_wt : ∀ i : _root_.Fin lgN.length, 1 + (lgN[i].ar.map (fun a => lgW.getD a.toNat 0)).sum ≤ lgW.getD i 0 := by decide
set_option maxHeartbeats 4000000 in
theorem lg_ev {p q : Bool} {x y : Int} {rx ry : Pt} (hx : (nmV rx).cn = cq (Rat.divInt x 7)) (hy : (nmV ry).cn = cq (Rat.divInt y 7)) (bx : x.natAbs ≤ 1000) (by_ : y.natAbs ≤ 1000) : Ev lgN (lgT p q rx ry) (fun i => (lgV p q x y)[i]?) (fun i => lgW.getD i 0) where
  in_ := fun i c hc => (List.getElem?_eq_some_iff.1 hc).1
  wt := fun i hi _ => by
    have h : ∀ i : _root_.Fin lgN.length, 1 + (lgN[i].ar.map (fun a => lgW.getD a.toNat 0)).sum ≤ lgW.getD i 0 := lg_wt
    exact h ⟨i, hi⟩
  made := fun i c hi hc => by
    have fX := fit_div x 7 (by omega) (by decide) (by decide)
    have fY := fit_div y 7 (by omega) (by decide) (by decide)
    have f2 : ∀ r ∈ Rat.divInt x 7 :: [Rat.divInt y 7], fitq r := fun r hr => by
      rcases List.mem_cons.1 hr with rfl | hr
      · exact fX
      · rw [List.mem_singleton] at hr; subst hr; exact fY
    have hi' : i < 18 := hi
    match i, hi' with
    | 0, _ =>
      obtain rfl : _ = c := Option.some.inj hc
      exact ⟨[], rfl, mt_con (n := lgC 112 0) rfl (by decide) ⟨⟨#[112]⟩, none, [], 0, bV p⟩ rfl rfl _ rfl⟩
    | 1, _ =>
      obtain rfl : _ = c := Option.some.inj hc
      exact ⟨[], rfl, mt_con (n := lgC 113 0) rfl (by decide) ⟨⟨#[113]⟩, none, [], 0, bV q⟩ rfl rfl _ rfl⟩
    | 2, _ =>
      obtain rfl : _ = c := Option.some.inj hc
      exact ⟨[], rfl, mt_con (n := lgC 120 1) rfl (by decide) ⟨⟨#[120]⟩, none, [], 0, nmV rx⟩ rfl rfl _ hx⟩
    | 3, _ =>
      obtain rfl : _ = c := Option.some.inj hc
      exact ⟨[], rfl, mt_con (n := lgC 121 1) rfl (by decide) ⟨⟨#[121]⟩, none, [], 0, nmV ry⟩ rfl rfl _ hy⟩
    | 4, _ =>
      obtain rfl : _ = c := Option.some.inj hc
      exact ⟨[tv p, tv q], rfl, mt_two (n := lgD 4 [0, 1] 0) p q _ (.inl ⟨rfl, rfl⟩)⟩
    | 5, _ =>
      obtain rfl : _ = c := Option.some.inj hc
      exact ⟨[tv p, tv q], rfl, mt_two (n := lgD 5 [0, 1] 0) p q _ (.inr (.inl ⟨rfl, rfl⟩))⟩
    | 6, _ =>
      obtain rfl : _ = c := Option.some.inj hc
      exact ⟨[tv p, tv q], rfl, mt_two (n := lgD 6 [0, 1] 0) p q _ (.inr (.inr (.inl ⟨rfl, rfl⟩)))⟩
    | 7, _ =>
      obtain rfl : _ = c := Option.some.inj hc
      exact ⟨[tv p, tv q], rfl, mt_two (n := lgD 7 [0, 1] 0) p q _ (.inr (.inr (.inr (.inl ⟨rfl, rfl⟩))))⟩
    | 8, _ =>
      obtain rfl : _ = c := Option.some.inj hc
      exact ⟨[tv p, tv q], rfl, mt_two (n := lgD 8 [0, 1] 0) p q _ (.inr (.inr (.inr (.inr (.inl ⟨rfl, rfl⟩)))))⟩
    | 9, _ =>
      obtain rfl : _ = c := Option.some.inj hc
      exact ⟨[tv p, tv q], rfl, mt_two (n := lgD 9 [0, 1] 0) p q _ (.inr (.inr (.inr (.inr (.inr (⟨rfl, rfl⟩))))))⟩
    | 10, _ =>
      obtain rfl : _ = c := Option.some.inj hc
      have h := mt_chain (tbs := lgT p q rx ry) (n := lgD 17 [2, 3] 0) _ (.inl ⟨rfl, rfl⟩) (Rat.divInt x 7) [Rat.divInt y 7] (by simp) f2
      refine ⟨[cq (Rat.divInt x 7), cq (Rat.divInt y 7)], rfl, ?_⟩
      have e := cmp_le (x := x) (y := y) (d := 7) (by decide)
      simp only [chainB, Bool.and_true, e] at h
      exact h
    | 11, _ =>
      obtain rfl : _ = c := Option.some.inj hc
      have h := mt_chain (tbs := lgT p q rx ry) (n := lgD 18 [2, 3] 0) _ (.inr (.inl ⟨rfl, rfl⟩)) (Rat.divInt x 7) [Rat.divInt y 7] (by simp) f2
      refine ⟨[cq (Rat.divInt x 7), cq (Rat.divInt y 7)], rfl, ?_⟩
      have e := cmp_lt (x := x) (y := y) (d := 7) (by decide)
      simp only [chainB, Bool.and_true, e] at h
      exact h
    | 12, _ =>
      obtain rfl : _ = c := Option.some.inj hc
      have h := mt_chain (tbs := lgT p q rx ry) (n := lgD 19 [2, 3] 0) _ (.inr (.inr (.inl ⟨rfl, rfl⟩))) (Rat.divInt x 7) [Rat.divInt y 7] (by simp) f2
      refine ⟨[cq (Rat.divInt x 7), cq (Rat.divInt y 7)], rfl, ?_⟩
      have e := cmp_ge (x := x) (y := y) (d := 7) (by decide)
      simp only [chainB, Bool.and_true, e] at h
      exact h
    | 13, _ =>
      obtain rfl : _ = c := Option.some.inj hc
      have h := mt_chain (tbs := lgT p q rx ry) (n := lgD 20 [2, 3] 0) _ (.inr (.inr (.inr ⟨rfl, rfl⟩))) (Rat.divInt x 7) [Rat.divInt y 7] (by simp) f2
      refine ⟨[cq (Rat.divInt x 7), cq (Rat.divInt y 7)], rfl, ?_⟩
      have e := cmp_gt (x := x) (y := y) (d := 7) (by decide)
      simp only [chainB, Bool.and_true, e] at h
      exact h
    | 14, _ =>
      obtain rfl : _ = c := Option.some.inj hc
      have h := mt_eqq (tbs := lgT p q rx ry) (n := lgD 8 [2, 3] 0) rfl (Rat.divInt x 7) (Rat.divInt y 7)
      refine ⟨[cq (Rat.divInt x 7), cq (Rat.divInt y 7)], rfl, ?_⟩
      rw [show decide (Rat.divInt x 7 = Rat.divInt y 7) = decide (x = y) from decide_eq_decide.2 (div_inj (by decide))] at h
      exact h
    | 15, _ =>
      obtain rfl : _ = c := Option.some.inj hc
      have h := mt_unq (tbs := lgT p q rx ry) (n := lgD 9 [2, 3] 0) rfl (Rat.divInt x 7) (Rat.divInt y 7)
      refine ⟨[cq (Rat.divInt x 7), cq (Rat.divInt y 7)], rfl, ?_⟩
      rw [show decide (Rat.divInt x 7 ≠ Rat.divInt y 7) = decide (x ≠ y) from decide_eq_decide.2 (not_congr (div_inj (by decide)))] at h
      exact h
    | 16, _ =>
      obtain rfl : _ = c := Option.some.inj hc
      exact ⟨[tv p], rfl, mt_not (n := lgD 3 [0] 0) rfl p⟩
    | 17, _ =>
      obtain rfl : _ = c := Option.some.inj hc
      exact ⟨[tv (!p), cq (Rat.divInt x 7), cq (Rat.divInt y 7)], rfl, mt_ite (n := lgD 10 [16, 2, 3] 1) rfl (!p) _ _⟩
set_option maxHeartbeats 800000 in
theorem lg_con {gn Bs B : Nat} {w0 W : World} {g : Nat} {v : Value} {ids : List Int} (hB : Bs = gn + 1) (i : Nat) (hi : i < 4) (h : Ib [gn] Bs B w0 W g i v ids (lgN.take i)) :
    Calls Tryz.prog 28 #[.pointer (some ⟨g, 0, none⟩), .int .i64 12, .string (lgS.getD i ⟨#[]⟩), .agg #[.bool false, .slice none 0 0, .slice none 0 0], .slice none 0 0] W fun e w' => e = .returned (.tuple #[.int .i64 (i : Int), .int .i64 0]) ∧ Ib [gn] Bs B w0 w' g (i + 1) v ids (lgN.take (i + 1)) ∧ Same (v.ownBlock.toList ++ [gn]) W w' := by
  have h4 : i = 0 ∨ i = 1 ∨ i = 2 ∨ i = 3 := by omega
  rcases h4 with rfl | rfl | rfl | rfl
  · have e1 : lgN.take 1 = lgN.take 0 ++ [⟨12, ⟨#[112]⟩, false, [], [], [], dcl[3].rs, 0⟩] := rfl
    have e2 : (lgN.take 0).length = 0 := rfl
    have hk := mk_con h.tt (show 0 ≤ 100000 by decide) ⟨#[112]⟩ (by decide) 3 (by decide) rfl rfl (by decide) (by rw [e2]; decide) (all_new (by decide))
    rw [e2, ← e1] at hk
    exact hk.mono fun e w' ⟨he, h1, h2⟩ => ⟨he, h.made h1 h2 (by have := h1.lt (b := gn) (by simp); omega), h2⟩
  · have e1 : lgN.take 2 = lgN.take 1 ++ [⟨12, ⟨#[113]⟩, false, [], [], [], dcl[4].rs, 0⟩] := rfl
    have e2 : (lgN.take 1).length = 1 := rfl
    have hk := mk_con h.tt (show 1 ≤ 100000 by decide) ⟨#[113]⟩ (by decide) 4 (by decide) rfl rfl (by decide) (by rw [e2]; decide) (all_new (by decide))
    rw [e2, ← e1] at hk
    exact hk.mono fun e w' ⟨he, h1, h2⟩ => ⟨he, h.made h1 h2 (by have := h1.lt (b := gn) (by simp); omega), h2⟩
  · have e1 : lgN.take 3 = lgN.take 2 ++ [⟨12, ⟨#[120]⟩, false, [], [], [], dcl[0].rs, 0⟩] := rfl
    have e2 : (lgN.take 2).length = 2 := rfl
    have hk := mk_con h.tt (show 2 ≤ 100000 by decide) ⟨#[120]⟩ (by decide) 0 (by decide) rfl rfl (by decide) (by rw [e2]; decide) (all_new (by decide))
    rw [e2, ← e1] at hk
    exact hk.mono fun e w' ⟨he, h1, h2⟩ => ⟨he, h.made h1 h2 (by have := h1.lt (b := gn) (by simp); omega), h2⟩
  · have e1 : lgN.take 4 = lgN.take 3 ++ [⟨12, ⟨#[121]⟩, false, [], [], [], dcl[1].rs, 0⟩] := rfl
    have e2 : (lgN.take 3).length = 3 := rfl
    have hk := mk_con h.tt (show 3 ≤ 100000 by decide) ⟨#[121]⟩ (by decide) 1 (by decide) rfl rfl (by decide) (by rw [e2]; decide) (all_new (by decide))
    rw [e2, ← e1] at hk
    exact hk.mono fun e w' ⟨he, h1, h2⟩ => ⟨he, h.made h1 h2 (by have := h1.lt (b := gn) (by simp); omega), h2⟩
structure Lg (B : Nat) (w0 : World) (g n gi gt gb : Nat) (p q : Bool) (x y : Int) (rx ry : Pt) (Z : List Nat) (W : World) : Prop where
  tt : Tt (Z ++ (gi :: gt :: gb :: (pb rx ++ pb ry))) B w0 W g n so0 (fuN 10) dcl (lgN.take n)
  ids : ∀ j : Nat, j < 4 → W.cell? ⟨gi, j, none⟩ = some (.int .i64 (j : Int))
  nx : Nq rx (Rat.divInt x 7) W
  ny : Nq ry (Rat.divInt y 7) W
  bt : Bk gt #[.string ⟨#[112]⟩, .slice none 0 0, .int .i64 0, .bool p, .bool false, .slice none 0 0, .slice none 0 0, .int .i64 0, .string ⟨#[113]⟩, .slice none 0 0, .int .i64 0, .bool q, .bool false, .slice none 0 0, .slice none 0 0, .int .i64 0, .string ⟨#[120]⟩, .slice none 0 0, .int .i64 1, .bool false, .bool rx.s, .slice rx.A rx.xs.length rx.a, .slice rx.B rx.ys.length rx.b, .int .i64 0, .string ⟨#[121]⟩, .slice none 0 0, .int .i64 1, .bool false, .bool ry.s, .slice ry.A ry.xs.length ry.a, .slice ry.B ry.ys.length ry.b, .int .i64 0] 37 W
  bb : Bk gb #[.slice (some ⟨gt, 0, none⟩) 4 4] 24 W
section
variable {B : Nat} {w0 : World} {g n gi gt gb : Nat} {p q : Bool} {x y : Int} {rx ry : Pt} {Z Z' : List Nat} {W W' : World}
theorem Lg.next (h : Lg B w0 g n gi gt gb p q x y rx ry Z W) (hb : Below W.heap.size W W') : Lg B w0 g n gi gt gb p q x y rx ry Z W' :=
  ⟨h.tt.next hb, fun j hj => cell_next hb (h.ids j hj), h.nx.next hb, h.ny.next hb, h.bt.next hb, h.bb.next hb⟩
theorem Lg.turn (h : Lg B w0 g n gi gt gb p q x y rx ry Z W) (hb : Below W.heap.size W W') (hZ : ∀ b ∈ Z', (b ∈ Z ∨ W.heap.size ≤ b) ∧ b < W'.heap.size) : Lg B w0 g n gi gt gb p q x y rx ry Z' W' :=
  ⟨h.tt.turn hb (fun b hm => by
    rcases List.mem_append.1 hm with hm | hm
    · exact ⟨(hZ b hm).1.imp (List.mem_append_left _) id, (hZ b hm).2⟩
    · exact ⟨.inl (List.mem_append_right _ hm), Nat.lt_of_lt_of_le (h.tt.lt (List.mem_append_right _ hm)) hb.size⟩), fun j hj => cell_next hb (h.ids j hj), h.nx.next hb, h.ny.next hb, h.bt.next hb, h.bb.next hb⟩
theorem Lg.same {n' : Nat} (h : Lg B w0 g n gi gt gb p q x y rx ry Z W) (ht : Tt (Z ++ (gi :: gt :: gb :: (pb rx ++ pb ry))) B w0 W' g n' so0 (fuN 10) dcl (lgN.take n')) (hs : Same (Z ++ (gi :: gt :: gb :: (pb rx ++ pb ry))) W W') : Lg B w0 g n' gi gt gb p q x y rx ry Z W' :=
  ⟨ht, fun j hj => (World.cell?_of_block (hs gi (by simp))).trans (h.ids j hj), h.nx.same hs (fun b hb => by simp [hb]), h.ny.same hs (fun b hb => by simp [hb]), h.bt.same hs (by simp), h.bb.same hs (by simp)⟩
theorem Lg.op (h : Lg B w0 g n gi gt gb p q x y rx ry Z W) (hn : n < 18) (op : Int) (ar : List Int) (so : Int) (cs : Array Value) (k : Nat) (hk : ar.length = k) (hcs : Rx (W.heap.size :: (Z ++ (gi :: gt :: gb :: (pb rx ++ pb ry)))) B (W.alloc (.cells cs 3)) (some ⟨W.heap.size, 0, none⟩) (zs ar))
    (hl : (lgN.take n).length = n) (e1 : lgN.take (n + 1) = lgN.take n ++ [lgD op ar so]) (h1 : 1 ≤ op) (h2 : op ≤ 20) (h11 : op ≠ 11) (h12 : op ≠ 12) (h16 : op ≠ 16) (hyes : srtB (lgN.take n) op ar = true) (hso : srtS (lgN.take n) op ar = so) (so0' : 0 ≤ so ∧ so ≤ 100000000) (hwo : wOf (lgN.take n) op [] ar = 0) (hin : ∀ a ∈ ar, 0 ≤ a ∧ a < (n : Int)) (hk64 : k ≤ 64) (hnew : (lgN.take n).all (fun m => kdiff m (lgD op ar so)) = true) :
    Calls Tryz.prog 28 #[.pointer (some ⟨g, 0, none⟩), .int .i64 op, .string ⟨#[]⟩, .agg #[.bool false, .slice none 0 0, .slice none 0 0], .slice (some ⟨W.heap.size, 0, none⟩) k k] (W.alloc (.cells cs 3)) fun e w' => e = .returned (.tuple #[.int .i64 (n : Int), .int .i64 0]) ∧ Lg B w0 g (n + 1) gi gt gb p q x y rx ry Z w' ∧ Same Z W w' := by
  subst hk
  have hb : Below W.heap.size W (W.alloc (.cells cs 3)) := bl_al (.refl _ _) _
  have hm := mk_op_new (h.tt.alloc (.cells cs 3)) (by omega) op h1 h2 h11 h12 _ ar ar.length hcs hk64 (Nat.le_refl _) (by unfold maxLen; omega) (by rw [hl]; exact hin) hyes (by rw [hl]; omega) (fun e => absurd e h16) (by rw [hso]; exact so0') (by rw [hwo]; decide) (by rw [hso]; exact all_new hnew)
  rw [hl, hso, hwo, show (⟨op, ⟨#[]⟩, false, [], [], ar, so, 0⟩ : Nd) = lgD op ar so from rfl, ← e1] at hm
  refine hm.mono fun e w' ⟨he, k1, k2⟩ => ?_
  have hS : Same (Z ++ (gi :: gt :: gb :: (pb rx ++ pb ry))) W w' := (Same.of_below hb (fun b hm => h.tt.lt hm)).trans (k2.less (fun b hm => List.mem_cons_of_mem _ hm))
  exact ⟨he, h.same (k1.less (fun b hm => List.mem_cons_of_mem _ hm)) hS, hS.less (fun b hm => List.mem_append_left _ hm)⟩
theorem Lg.ts (h : Lg B w0 g n gi gt gb p q x y rx ry Z W) : Ts [] W (some ⟨gt, 0, none⟩) (lgT p q rx ry) := by
  refine ⟨h.bt.rl rT_ok rfl (by simp), fun t ht => ?_⟩
  simp only [lgT, List.mem_cons, List.not_mem_nil, or_false] at ht
  rcases ht with rfl | rfl | rfl | rfl
  · exact ⟨⟨.inl rfl, by simp⟩, bV_at p W⟩
  · exact ⟨⟨.inl rfl, by simp⟩, bV_at q W⟩
  · exact ⟨⟨.inl rfl, by simp⟩, h.nx.at_⟩
  · exact ⟨⟨.inl rfl, by simp⟩, h.ny.at_⟩
theorem Lg.few (h : Lg B w0 g n gi gt gb p q x y rx ry Z W) : ∀ t ∈ lgT p q rx ry, t.Few := by
  intro t ht
  simp only [lgT, List.mem_cons, List.not_mem_nil, or_false] at ht
  rcases ht with rfl | rfl | rfl | rfl
  · exact ⟨by simp, bV_few p, by simp⟩
  · exact ⟨by simp, bV_few q, by simp⟩
  · exact ⟨by simp, h.nx.few, by simp⟩
  · exact ⟨by simp, h.ny.few, by simp⟩
theorem lgW_le : ∀ k : _root_.Fin 18, lgW.getD k 0 ≤ 1000 := by decide
theorem Lg.ev (h : Lg B w0 g n gi gt gb p q x y rx ry Z W) (bx : x.natAbs ≤ 1000) (by_ : y.natAbs ≤ 1000) (hn : n ≤ 18) (k : Nat) (hk : k < n) (c : CV) (hc : (lgV p q x y)[k]? = some c) :
    Calls Tryz.prog 30 #[.pointer (some ⟨g, 0, none⟩), .agg #[.slice (some ⟨gt, 0, none⟩) 4 4], .int .i64 (k : Int)] W fun e w' => ∃ u : Vl, e = .returned (.tuple #[.agg #[.int .i64 u.so, .bool u.bo, .bool u.p.s, .slice u.p.A u.p.xs.length u.p.a, .slice u.p.B u.p.ys.length u.p.b, .int .i64 u.el], .int .i64 0]) ∧ Vx u c w' ∧ Below W.heap.size W w' :=
  (eval_any (h.tt.less (Y := []) (by simp)) (by omega) (some ⟨gt, 0, none⟩) 4 h.ts h.few (by simp [lgT]) (by
    intro t ht
    simp only [lgT, List.mem_cons, List.not_mem_nil, or_false] at ht
    rcases ht with rfl | rfl | rfl | rfl <;> (show (1 : Nat) ≤ maxLen; decide)) ((lg_ev h.nx.cn h.ny.cn bx by_).take n lg_args) k c (show (if k < n then (lgV p q x y)[k]? else none) = some c by rw [if_pos hk, hc]) (lgW_le ⟨k, by omega⟩)).mono fun e w' ⟨u, k', e1, ⟨e2, e3⟩, e4, e5, e6⟩ => by
    subst e3
    exact ⟨u, e1, ⟨e2, e4, e5⟩, e6⟩
theorem Lg.evb (h : Lg B w0 g n gi gt gb p q x y rx ry Z W) (bx : x.natAbs ≤ 1000) (by_ : y.natAbs ≤ 1000) (hn : n ≤ 18) (k : Nat) (hk : k < n) (b : Bool) (hc : (lgV p q x y)[k]? = some (tv b)) :
    Calls Tryz.prog 30 #[.pointer (some ⟨g, 0, none⟩), .agg #[.slice (some ⟨gt, 0, none⟩) 4 4], .int .i64 (k : Int)] W fun e w' => ∃ u : Vl, e = .returned (.tuple #[.agg #[.int .i64 0, .bool b, .bool u.p.s, .slice u.p.A u.p.xs.length u.p.a, .slice u.p.B u.p.ys.length u.p.b, .int .i64 u.el], .int .i64 0]) ∧ Below W.heap.size W w' :=
  (h.ev bx by_ hn k hk _ hc).mono fun e w' ⟨u, e1, e2, e3⟩ => ⟨u, by
    rw [e1, show u.so = 0 from congrArg (fun x => x.1) e2.cn, show u.bo = b from congrArg (fun x => x.2.1) e2.cn], e3⟩
theorem lgA_at (i : Nat) (hi : i < 6) : (lgV p q x y)[4 + i]? = some (tv ((lgA p q).getD i false)) := by
  have h : i = 0 ∨ i = 1 ∨ i = 2 ∨ i = 3 ∨ i = 4 ∨ i = 5 := by omega
  rcases h with rfl | rfl | rfl | rfl | rfl | rfl <;> rfl
theorem lgB_at (i : Nat) (hi : i < 6) : (lgV p q x y)[10 + i]? = some (tv ((lgB x y).getD i false)) := by
  have h : i = 0 ∨ i = 1 ∨ i = 2 ∨ i = 3 ∨ i = 4 ∨ i = 5 := by omega
  rcases h with rfl | rfl | rfl | rfl | rfl | rfl <;> rfl
def opA : List Int := [4, 5, 6, 7, 8, 9]
def opB : List Int := [17, 18, 19, 20, 8, 9]
set_option maxHeartbeats 2000000 in
theorem Lg.opA (i k : Nat) (hi : i < 6) (hk : k = 4 + i) (h : Lg B w0 g k gi gt gb p q x y rx ry Z W) :
    Calls Tryz.prog 28 #[.pointer (some ⟨g, 0, none⟩), .int .i64 (Nt.opA.getD i 0), .string ⟨#[]⟩, .agg #[.bool false, .slice none 0 0, .slice none 0 0], .slice (some ⟨W.heap.size, 0, none⟩) 2 2] (W.alloc (.cells #[.int .i64 0, .int .i64 1] 3)) fun e w' => e = .returned (.tuple #[.int .i64 (k : Int), .int .i64 0]) ∧ Lg B w0 g (k + 1) gi gt gb p q x y rx ry Z w' ∧ Same Z W w' := by
  subst hk
  have h6 : i = 0 ∨ i = 1 ∨ i = 2 ∨ i = 3 ∨ i = 4 ∨ i = 5 := by omega
  rcases h6 with rfl | rfl | rfl | rfl | rfl | rfl
  · exact h.op (by decide) 4 [0, 1] 0 _ 2 rfl (two_rx W 0 1 h.tt.base) rfl rfl (by decide) (by decide) (by decide) (by decide) (by decide) (by decide) (by decide) (by decide) (by decide) (by decide) (by decide) (by decide)
  · exact h.op (by decide) 5 [0, 1] 0 _ 2 rfl (two_rx W 0 1 h.tt.base) rfl rfl (by decide) (by decide) (by decide) (by decide) (by decide) (by decide) (by decide) (by decide) (by decide) (by decide) (by decide) (by decide)
  · exact h.op (by decide) 6 [0, 1] 0 _ 2 rfl (two_rx W 0 1 h.tt.base) rfl rfl (by decide) (by decide) (by decide) (by decide) (by decide) (by decide) (by decide) (by decide) (by decide) (by decide) (by decide) (by decide)
  · exact h.op (by decide) 7 [0, 1] 0 _ 2 rfl (two_rx W 0 1 h.tt.base) rfl rfl (by decide) (by decide) (by decide) (by decide) (by decide) (by decide) (by decide) (by decide) (by decide) (by decide) (by decide) (by decide)
  · exact h.op (by decide) 8 [0, 1] 0 _ 2 rfl (two_rx W 0 1 h.tt.base) rfl rfl (by decide) (by decide) (by decide) (by decide) (by decide) (by decide) (by decide) (by decide) (by decide) (by decide) (by decide) (by decide)
  · exact h.op (by decide) 9 [0, 1] 0 _ 2 rfl (two_rx W 0 1 h.tt.base) rfl rfl (by decide) (by decide) (by decide) (by decide) (by decide) (by decide) (by decide) (by decide) (by decide) (by decide) (by decide) (by decide)
set_option maxHeartbeats 2000000 in
theorem Lg.opB (i k : Nat) (hi : i < 6) (hk : k = 10 + i) (h : Lg B w0 g k gi gt gb p q x y rx ry Z W) :
    Calls Tryz.prog 28 #[.pointer (some ⟨g, 0, none⟩), .int .i64 (Nt.opB.getD i 0), .string ⟨#[]⟩, .agg #[.bool false, .slice none 0 0, .slice none 0 0], .slice (some ⟨W.heap.size, 0, none⟩) 2 2] (W.alloc (.cells #[.int .i64 2, .int .i64 3] 3)) fun e w' => e = .returned (.tuple #[.int .i64 (k : Int), .int .i64 0]) ∧ Lg B w0 g (k + 1) gi gt gb p q x y rx ry Z w' ∧ Same Z W w' := by
  subst hk
  have h6 : i = 0 ∨ i = 1 ∨ i = 2 ∨ i = 3 ∨ i = 4 ∨ i = 5 := by omega
  rcases h6 with rfl | rfl | rfl | rfl | rfl | rfl
  · exact h.op (by decide) 17 [2, 3] 0 _ 2 rfl (two_rx W 2 3 h.tt.base) rfl rfl (by decide) (by decide) (by decide) (by decide) (by decide) (by decide) (by decide) (by decide) (by decide) (by decide) (by decide) (by decide)
  · exact h.op (by decide) 18 [2, 3] 0 _ 2 rfl (two_rx W 2 3 h.tt.base) rfl rfl (by decide) (by decide) (by decide) (by decide) (by decide) (by decide) (by decide) (by decide) (by decide) (by decide) (by decide) (by decide)
  · exact h.op (by decide) 19 [2, 3] 0 _ 2 rfl (two_rx W 2 3 h.tt.base) rfl rfl (by decide) (by decide) (by decide) (by decide) (by decide) (by decide) (by decide) (by decide) (by decide) (by decide) (by decide) (by decide)
  · exact h.op (by decide) 20 [2, 3] 0 _ 2 rfl (two_rx W 2 3 h.tt.base) rfl rfl (by decide) (by decide) (by decide) (by decide) (by decide) (by decide) (by decide) (by decide) (by decide) (by decide) (by decide) (by decide)
  · exact h.op (by decide) 8 [2, 3] 0 _ 2 rfl (two_rx W 2 3 h.tt.base) rfl rfl (by decide) (by decide) (by decide) (by decide) (by decide) (by decide) (by decide) (by decide) (by decide) (by decide) (by decide) (by decide)
  · exact h.op (by decide) 9 [2, 3] 0 _ 2 rfl (two_rx W 2 3 h.tt.base) rfl rfl (by decide) (by decide) (by decide) (by decide) (by decide) (by decide) (by decide) (by decide) (by decide) (by decide) (by decide) (by decide)
theorem Lg.not (h : Lg B w0 g 16 gi gt gb p q x y rx ry Z W) :
    Calls Tryz.prog 28 #[.pointer (some ⟨g, 0, none⟩), .int .i64 3, .string ⟨#[]⟩, .agg #[.bool false, .slice none 0 0, .slice none 0 0], .slice (some ⟨W.heap.size, 0, none⟩) 1 1] (W.alloc (.cells #[.int .i64 0] 3)) fun e w' => e = .returned (.tuple #[.int .i64 16, .int .i64 0]) ∧ Lg B w0 g 17 gi gt gb p q x y rx ry Z w' ∧ Same Z W w' :=
  h.op (by decide) 3 [0] 0 _ 1 rfl (one_rx W 0 h.tt.base) rfl rfl (by decide) (by decide) (by decide) (by decide) (by decide) (by decide) (by decide) (by decide) (by decide) (by decide) (by decide) (by decide)
theorem three_rx {X : List Nat} {B0 : Nat} (w : World) (a b c : Int) (h : B0 ≤ w.heap.size) : Rx (w.heap.size :: X) B0 (w.alloc (.cells #[.int .i64 a, .int .i64 b, .int .i64 c] 3)) (some ⟨w.heap.size, 0, none⟩) (zs [a, b, c]) := by
  have hB : Bk w.heap.size #[.int .i64 a, .int .i64 b, .int .i64 c] 3 (w.alloc (.cells #[.int .i64 a, .int .i64 b, .int .i64 c] 3)) := Bk.new _ _ _
  refine .inr ⟨_, _, rfl, .inl (by simp), hB.lt, fun j v hj => ?_⟩
  rw [Nat.zero_add]
  refine hB.cell ?_
  rw [← Array.getElem?_toList]
  exact hj
theorem Lg.ite (h : Lg B w0 g 17 gi gt gb p q x y rx ry Z W) :
    Calls Tryz.prog 28 #[.pointer (some ⟨g, 0, none⟩), .int .i64 10, .string ⟨#[]⟩, .agg #[.bool false, .slice none 0 0, .slice none 0 0], .slice (some ⟨W.heap.size, 0, none⟩) 3 3] (W.alloc (.cells #[.int .i64 16, .int .i64 2, .int .i64 3] 3)) fun e w' => e = .returned (.tuple #[.int .i64 17, .int .i64 0]) ∧ Lg B w0 g 18 gi gt gb p q x y rx ry Z w' ∧ Same Z W w' :=
  h.op (by decide) 10 [16, 2, 3] 1 _ 3 rfl (three_rx W 16 2 3 h.tt.base) rfl rfl (by decide) (by decide) (by decide) (by decide) (by decide) (by decide) (by decide) (by decide) (by decide) (by decide) (by decide) (by decide)
end
section
variable {B : Nat} {w0 : World} {g n gi gt gb : Nat} {p q : Bool} {x y : Int} {rx ry : Pt} {Z X : List Nat} {wr w2 w3 W : World}
theorem Lg.start (p' : Bool) (hp : p' = p) (hT : Tt X B w0 wr g 4 so0 (fuN 10) dcl (lgN.take 4)) (hgi : gi ∈ X) (ids : ∀ j : Nat, j < 4 → wr.cell? ⟨gi, j, none⟩ = some (.int .i64 (j : Int))) (b1 : Below wr.heap.size wr w2) (nx : Nq rx (Rat.divInt x 7) w2) (fx : Fr wr rx.A ∧ Fr wr rx.B) (b2 : Below w2.heap.size w2 w3) (ny : Nq ry (Rat.divInt y 7) w3) (fy : Fr w2 ry.A ∧ Fr w2 ry.B) :
    Lg B w0 g 4 gi w3.heap.size (w3.heap.size + 1) p q x y rx ry [] ((w3.alloc (.cells #[.string ⟨#[112]⟩, .slice none 0 0, .int .i64 0, .bool p', .bool false, .slice none 0 0, .slice none 0 0, .int .i64 0, .string ⟨#[113]⟩, .slice none 0 0, .int .i64 0, .bool q, .bool false, .slice none 0 0, .slice none 0 0, .int .i64 0, .string ⟨#[120]⟩, .slice none 0 0, .int .i64 1, .bool false, .bool rx.s, .slice rx.A rx.xs.length rx.a, .slice rx.B rx.ys.length rx.b, .int .i64 0, .string ⟨#[121]⟩, .slice none 0 0, .int .i64 1, .bool false, .bool ry.s, .slice ry.A ry.xs.length ry.a, .slice ry.B ry.ys.length ry.b, .int .i64 0] 37)).alloc (.cells #[.slice (some ⟨w3.heap.size, 0, none⟩) 4 4] 24)) := by
  subst hp
  have b3 : Below w3.heap.size w3 ((w3.alloc (.cells #[.string ⟨#[112]⟩, .slice none 0 0, .int .i64 0, .bool p', .bool false, .slice none 0 0, .slice none 0 0, .int .i64 0, .string ⟨#[113]⟩, .slice none 0 0, .int .i64 0, .bool q, .bool false, .slice none 0 0, .slice none 0 0, .int .i64 0, .string ⟨#[120]⟩, .slice none 0 0, .int .i64 1, .bool false, .bool rx.s, .slice rx.A rx.xs.length rx.a, .slice rx.B rx.ys.length rx.b, .int .i64 0, .string ⟨#[121]⟩, .slice none 0 0, .int .i64 1, .bool false, .bool ry.s, .slice ry.A ry.xs.length ry.a, .slice ry.B ry.ys.length ry.b, .int .i64 0] 37)).alloc (.cells #[.slice (some ⟨w3.heap.size, 0, none⟩) 4 4] 24)) := bl_al (bl_al (.refl _ _) _) _
  have b23 := bl_trans b2 b3
  have hb := bl_trans b1 b23
  have s1 := b1.size
  have s2 := b2.size
  have px := fun b (hm : b ∈ pb rx) => And.intro (pb_new fx b hm) (nx.pb_lt b hm)
  have py := fun b (hm : b ∈ pb ry) => And.intro (pb_new fy b hm) (ny.pb_lt b hm)
  refine ⟨hT.turn hb (fun b hm => ?_), fun j hj => cell_next hb (ids j hj), nx.next b23, ny.next b3, (Bk.new _ _ w3).al _, Bk.new1 _ _ w3 _⟩
  simp only [List.nil_append, List.mem_cons, List.mem_append] at hm
  have hgl := hT.lt hgi
  rcases hm with rfl | rfl | rfl | hm | hm
  · exact ⟨.inl hgi, by simp; omega⟩
  · exact ⟨.inr (by omega), by simp; omega⟩
  · exact ⟨.inr (by omega), by simp⟩
  · have := px b hm
    exact ⟨.inr this.1, by simp; omega⟩
  · have := py b hm
    exact ⟨.inr (by omega), by simp; omega⟩
theorem Lg.arr (h : Lg B w0 g n gi gt gb p q x y rx ry Z W) (c1 : Array Value) (t1 : TypeId) : Lg B w0 g n gi gt gb p q x y rx ry (W.heap.size :: Z) (W.alloc (.cells c1 t1)) :=
  h.turn (bl_al (.refl _ _) _) (fun b hm => by
    rcases List.mem_cons.1 hm with rfl | hm
    · exact ⟨.inr (Nat.le_refl _), by simp⟩
    · exact ⟨.inl hm, by have := h.tt.lt (b := b) (List.mem_append_left _ hm); simp; omega⟩)
theorem Lg.lessZ (h : Lg B w0 g n gi gt gb p q x y rx ry Z W) {Z' : List Nat} (hZ : ∀ b ∈ Z', b ∈ Z) : Lg B w0 g n gi gt gb p q x y rx ry Z' W :=
  h.turn (.refl _ _) (fun b hm => ⟨.inl (hZ b hm), h.tt.lt (List.mem_append_left _ (hZ b hm))⟩)
end
set_option maxHeartbeats 16000000 in
theorem logic_law (p q : Bool) (x y : Int) (w : World) : Calls Tryz.prog 4 #[.bool p, .bool q, .int .i64 x, .int .i64 y] w fun e w' => e = .returned (.bool true) ∧ Below w.heap.size w w' := by
  have haw := fun W (hb : Below w.heap.size w W) => (awake10_any W).mono fun e w' (h : e = .returned (.bool true) ∧ Below W.heap.size W w') => (show e = .returned (.bool true) ∧ Below w.heap.size w w' from ⟨h.1, bl_trans hb h.2⟩)
  replace haw := hide haw
  rcases Decidable.em (x < -1000) with k1 | k1
  · have g1 : decide (x < -1000) = true := decide_eq_true k1
    go_enter Tryz.func4, Tryz.ntmps4
    go_wp2_with (go_at_call 9; (with_reducible refine (haw.out _ (Below.refl _ _)).mono ?_); rintro e w1 ⟨rfl, hb⟩; replace hb := hide hb)
    go_ret
    exact ⟨rfl, hb.out⟩
  have g1 : decide (x < -1000) = false := decide_eq_false k1
  rcases Decidable.em (1000 < x) with k2 | k2
  · have g2 : decide (1000 < x) = true := decide_eq_true k2
    go_enter Tryz.func4, Tryz.ntmps4
    go_wp2_with (go_at_call 9; (with_reducible refine (haw.out _ (Below.refl _ _)).mono ?_); rintro e w1 ⟨rfl, hb⟩; replace hb := hide hb)
    go_ret
    exact ⟨rfl, hb.out⟩
  have g2 : decide (1000 < x) = false := decide_eq_false k2
  rcases Decidable.em (y < -1000) with k3 | k3
  · have g3 : decide (y < -1000) = true := decide_eq_true k3
    go_enter Tryz.func4, Tryz.ntmps4
    go_wp2_with (go_at_call 9; (with_reducible refine (haw.out _ (Below.refl _ _)).mono ?_); rintro e w1 ⟨rfl, hb⟩; replace hb := hide hb)
    go_ret
    exact ⟨rfl, hb.out⟩
  have g3 : decide (y < -1000) = false := decide_eq_false k3
  rcases Decidable.em (1000 < y) with k4 | k4
  · have g4 : decide (1000 < y) = true := decide_eq_true k4
    go_enter Tryz.func4, Tryz.ntmps4
    go_wp2_with (go_at_call 9; (with_reducible refine (haw.out _ (Below.refl _ _)).mono ?_); rintro e w1 ⟨rfl, hb⟩; replace hb := hide hb)
    go_ret
    exact ⟨rfl, hb.out⟩
  have g4 : decide (1000 < y) = false := decide_eq_false k4
  have bx : x.natAbs ≤ 1000 := by omega
  have by_ : y.natAbs ≤ 1000 := by omega
  have NX := hide (fun W => num_f x 7 W (by omega) (by decide) (by decide))
  have NY := hide (fun W => num_f y 7 W (by omega) (by decide) (by decide))
  replace bx := hide bx; replace by_ := hide by_
  have ht := hide (tables_t w)
  obtain ⟨B, hB⟩ : ∃ B, B = w.heap.size := ⟨_, rfl⟩
  rw [← hB] at ht
  replace hB := hide hB
  all_goals
    go_enter Tryz.func4, Tryz.ntmps4
    go_wp2_with (go_at_call 27; (with_reducible refine ht.out.mono ?_); rintro e w1 ⟨g, z, rfl, T1⟩; replace T1 := hide T1)
    have I0 : Hid (Ib [w1.heap.size] (w1.heap.size + 1) B w (w1.alloc (.cells #[.string ⟨#[112]⟩, .string ⟨#[113]⟩, .string ⟨#[120]⟩, .string ⟨#[121]⟩] 9)) g 0 (.slice none 0 0) [] (lgN.take 0)) := hide ⟨(T1.out.alloc _).less (by simp [Value.ownBlock]), Gr.nil _ _ _, by simp, ⟨by have := T1.out.base; omega, by simp⟩⟩
    have K0 := hide (Bk.new #[.string ⟨#[112]⟩, .string ⟨#[113]⟩, .string ⟨#[120]⟩, .string ⟨#[121]⟩] 9 w1)
    generalize w1.heap.size = gn at *
    go_loopw [11, 13] (fun v ii wr => ∃ (i : Nat) (A : Option Addr) (c : Nat), i ≤ 4 ∧ ii = .int .i64 (i : Int) ∧ v = .slice A i c ∧ Ib [gn] (gn + 1) B w wr g i (.slice A i c) ((List.range i).map fun k : Nat => (k : Int)) (lgN.take i) ∧ Bk gn #[.string ⟨#[112]⟩, .string ⟨#[113]⟩, .string ⟨#[120]⟩, .string ⟨#[121]⟩] 9 wr) (fun _ ii _ => 4 - (intOf ii).toNat)
    case atStart => exact ⟨0, none, 0, by decide, rfl, rfl, I0.out, K0.out⟩
    case round =>
      clear I0 K0 T1
      obtain ⟨i, A, c, hi, rfl, rfl, I, K⟩ := hrel
      by_cases hlt : i < 4
      · have y0 : wr.cell? ⟨gn, i, none⟩ = some (.string (lgS.getD i ⟨#[]⟩)) := by
          have h4 : i = 0 ∨ i = 1 ∨ i = 2 ∨ i = 3 := by omega
          rcases h4 with rfl | rfl | rfl | rfl <;> exact K.cell rfl
        have M := hide (lg_con rfl i hlt I)
        generalize lgS.getD i ⟨#[]⟩ = nm at *
        replace I := hide I
        replace K := hide K
        go_wp2_with (first
          | (at_builtin; refine wpList_append_run _ rfl _ _ _ rfl _ _ _ _ rfl rfl r1 ?_)
          | (go_at_call 28; (with_reducible refine M.out.mono ?_); rintro e w2 ⟨rfl, I2, S2⟩; have K2 := K.out.same S2 (by simp); obtain ⟨A', c', w3, r1, I3, O3⟩ := I2.push (n := i) (by simp) (by omega) (i : Int); have gnn : gn ∉ (Value.slice A i c).ownBlock.toList := (fun hm => by have := (I2.gr.base gn (by simpa using hm)).1; omega); have K3 := hide (K2.off O3 gnn); replace I3 := hide I3; clear I2 S2 K2 O3 gnn M I K y0))
        go_roundw
        case rel =>
          refine ⟨i + 1, A', c', hlt, by go_num, rfl, ?_, K3.out⟩
          have := I3.out
          rw [show (List.range (i + 1)).map (fun k : Nat => (k : Int)) = (List.range i).map (fun k : Nat => (k : Int)) ++ [(i : Int)] by rw [List.range_succ, List.map_append]; rfl]
          exact this
        case measure => simp only [intOf]; omega
      · have hi4 : i = 4 := by omega
        subst hi4
        obtain ⟨gi, rfl, gl, gB, gc⟩ := I.gr.ids (by simp)
        have hid : ∀ j : Nat, j < 4 → wr.cell? ⟨gi, j, none⟩ = some (.int .i64 (j : Int)) := fun j hj => by
          have := gc j (by simp; exact hj)
          simpa using this
        have TT := hide I.tt
        replace hid := hide hid
        clear I K gc gB gl hi hlt
        go_upto_region 16 with (first
          | (go_at_call 29; (with_reducible refine (NX.out _).mono ?_); rintro e w2 ⟨rx, rfl, nx, fx, b1⟩; replace nx := hide nx; replace fx := hide fx; replace b1 := hide b1)
          | (go_at_call 29; (with_reducible refine (NY.out _).mono ?_); rintro e w3 ⟨ry, rfl, ny, fy, b2⟩; have J := hide (Lg.start (p := p) (q := q) _ rfl TT.out (by simp [Value.ownBlock]) hid.out b1.out nx.out fx.out b2 ny fy); clear TT hid b1 nx fx b2 ny fy))
        (generalize ((w3.alloc (.cells #[.string ⟨#[112]⟩, .slice none 0 0, .int .i64 0, .bool p, .bool false, .slice none 0 0, .slice none 0 0, .int .i64 0, .string ⟨#[113]⟩, .slice none 0 0, .int .i64 0, .bool q, .bool false, .slice none 0 0, .slice none 0 0, .int .i64 0, .string ⟨#[120]⟩, .slice none 0 0, .int .i64 1, .bool false, .bool rx.s, .slice rx.A rx.xs.length rx.a, .slice rx.B rx.ys.length rx.b, .int .i64 0, .string ⟨#[121]⟩, .slice none 0 0, .int .i64 1, .bool false, .bool ry.s, .slice ry.A ry.xs.length ry.a, .slice ry.B ry.ys.length ry.b, .int .i64 0] 37)).alloc (.cells #[.slice (some ⟨w3.heap.size, 0, none⟩) 4 4] 24)) = W0 at *; have J' : Hid (Lg B w g 4 gi w3.heap.size (w3.heap.size + 1) p q x y rx ry [] W0) := J)
        clear J
        have J := J'
        clear J'
        generalize w3.heap.size + 1 = gb at *
        generalize w3.heap.size = gt at *
        go_upto_region 17 with (fail)
        have J1 := hide (J.out.arr #[.int .i64 4, .int .i64 5, .int .i64 6, .int .i64 7, .int .i64 8, .int .i64 9] 3)
        have KO := hide (Bk.new #[.int .i64 4, .int .i64 5, .int .i64 6, .int .i64 7, .int .i64 8, .int .i64 9] 3 W0)
        clear J
        generalize W0.alloc (.cells #[.int .i64 4, .int .i64 5, .int .i64 6, .int .i64 7, .int .i64 8, .int .i64 9] 3) = W1 at *
        generalize W0.heap.size = go at *
        go_cut [18] (fun s18 wx => ∃ cw : Array Value, s18 = .slice (some ⟨W1.heap.size, 0, none⟩) 6 6 ∧ Lg B w g 4 gi gt gb p q x y rx ry [W1.heap.size, go] wx ∧ Bk go #[.int .i64 4, .int .i64 5, .int .i64 6, .int .i64 7, .int .i64 8, .int .i64 9] 3 wx ∧ Bk W1.heap.size cw 4 wx ∧ ∀ i, i < 6 → cw[i]? = some (.bool ((lgA p q).getD i false)))
        case first =>
          cases p <;> cases q
          all_goals
            go_wp2_with fail
            go_meet
            exact ⟨_, rfl, J1.out.arr _ _, KO.out.al _, Bk.new _ _ _, fun i hi => by
              have h6 : i = 0 ∨ i = 1 ∨ i = 2 ∨ i = 3 ∨ i = 4 ∨ i = 5 := by omega
              rcases h6 with rfl | rfl | rfl | rfl | rfl | rfl <;> rfl⟩
        case rest =>
        clear KO J1
        obtain ⟨cw, rfl, J, KO, KW, hcw⟩ := hcut
        replace J := hide J
        replace KO := hide KO
        replace KW := hide KW
        replace hcw := hide hcw
        generalize W1.heap.size = gw at *
        go_wp2
        go_loopw [19] (fun ii wr => ∃ (i k : Nat), i ≤ 6 ∧ k = 4 + i ∧ ii = .int .i64 (i : Int) ∧ Lg B w g k gi gt gb p q x y rx ry [gw, go] wr ∧ Bk go #[.int .i64 4, .int .i64 5, .int .i64 6, .int .i64 7, .int .i64 8, .int .i64 9] 3 wr ∧ Bk gw cw 4 wr) (fun ii _ => 6 - (intOf ii).toNat)
        case atStart => exact ⟨0, 4, by decide, rfl, rfl, J.out, KO.out, KW.out⟩
        case round =>
          clear J KO KW
          obtain ⟨i, k, hi, hk, rfl, J, KO, KW⟩ := hrel
          by_cases hlt : i < 6
          · obtain ⟨b, hb⟩ : ∃ b, b = (lgA p q).getD i false := ⟨_, rfl⟩
            have hkc := lgA_at (p := p) (q := q) (x := x) (y := y) i hlt
            have hcb := hcw.out i hlt
            rw [← hb] at hkc hcb
            rw [← hk] at hkc
            have y0 : ∀ W, Below wr.heap.size wr W → W.cell? ⟨go, i, none⟩ = some (.int .i64 (Nt.opA.getD i 0)) := fun W hW => by
              have K := KO.next hW
              have h6 : i = 0 ∨ i = 1 ∨ i = 2 ∨ i = 3 ∨ i = 4 ∨ i = 5 := by omega
              rcases h6 with rfl | rfl | rfl | rfl | rfl | rfl <;> exact K.cell rfl
            have MK := hide (fun W (hW : Below wr.heap.size wr W) => (J.next hW).opA i k hlt hk)
            generalize Nt.opA.getD i 0 = o at *
            have SS := hide (fun W (hW : Below wr.heap.size wr W) => (show (W.cell? ⟨go, i, none⟩ = some (.int .i64 o) ∧ W.cell? ⟨gi, 0, none⟩ = some (.int .i64 0) ∧ W.cell? ⟨gi, 1, none⟩ = some (.int .i64 1)) from ⟨y0 W hW, (J.next hW).ids 0 (by decide), (J.next hW).ids 1 (by decide)⟩))
            have k18 : k < 18 := by omega
            replace J := hide J; replace KO := hide KO; replace KW := hide KW; replace hb := hide hb; replace hkc := hide hkc; replace hcb := hide hcb; replace hk := hide hk
            clear y0
            have bb := bel_dr wr
            go_wp2
            refine wp_region_held_drew (S := fun W => (W.cell? ⟨go, i, none⟩ = some (.int .i64 o) ∧ W.cell? ⟨gi, 0, none⟩ = some (.int .i64 0) ∧ W.cell? ⟨gi, 1, none⟩ = some (.int .i64 1))) (by kernel_rfl) ?_ (fun hHeld => ?_)
            · (try dsimp only)
              with_reducible exact SS.out _ bb
            generalize wr.drew = wd at *
            refine tkH 0 (h := ?_)
            refine tkH 1 (h := ?_)
            refine tkH 2 (h := ?_)
            refine tkH 3 (h := ?_)
            refine tkH 4 (h := ?_)
            refine tkH 5 (h := ?_)
            refine tkH 6 (h := ?_)
            refine tkH 7 (h := ?_)
            refine tkH 8 (h := ?_)
            refine tkH 9 (h := ?_)
            refine tkH 10 (h := ?_)
            refine tkH 11 (h := ?_)
            refine rdH 12 (h := fun K hK => ?_)
            go_simp
            refine hK.out _ _ ?_ (fun hHeld => ?_)
            · (try dsimp only)
              with_reducible exact SS.out _ (bl_al bb _)
            (try clear hK K)
            (try simp only [Act.put, List.setIfInBounds_toArray, List.set_cons_zero, List.set_cons_succ])
            refine rdH 13 (h := fun K hK => ?_)
            go_simp
            (go_at_call 28; (with_reducible refine (MK.out _ bb).mono ?_); rintro e w5 ⟨rfl, J5, S5⟩; have KO5 := (KO.out.next bb).same S5 (by simp); have KW5 := (KW.out.next bb).same S5 (by simp); have SC := SS.out _ bb; have S6 := hide (show (w5.cell? ⟨go, i, none⟩ = some (.int .i64 o) ∧ w5.cell? ⟨gi, 0, none⟩ = some (.int .i64 0) ∧ w5.cell? ⟨gi, 1, none⟩ = some (.int .i64 1)) from ⟨(World.cell?_of_block (S5 go (by simp))).trans SC.1, J5.ids 0 (by decide), J5.ids 1 (by decide)⟩); replace J5 := hide J5; replace KO5 := hide KO5; replace KW5 := hide KW5; clear S5 SC MK J KO KW)
            (try go_wp2_with fail)
            refine hK.out _ _ ?_ (fun hHeld => ?_)
            · (try dsimp only)
              with_reducible exact S6.out
            (try clear hK K)
            (try simp only [Act.put, List.setIfInBounds_toArray, List.set_cons_zero, List.set_cons_succ])
            refine tkH 14 (h := ?_)
            refine tkH 15 (h := ?_)
            refine tkH 16 (h := ?_)
            refine tkH 17 (h := ?_)
            refine tkH 18 (h := ?_)
            refine wpAnyH_done (by kernel_rfl) ?_ _
            have m0 := J5.out.bb.cell (j := 0) rfl
            have EVb := hide (J5.out.evb bx.out by_.out (by omega) k (by omega) b hkc.out)
            go_wp2_with (go_at_call 30; (with_reducible refine EVb.out.mono ?_); rintro e w6 ⟨u, rfl, hb6⟩; have g6 := bl_al hb6 (.cells #[.int .i64 0, .bool b, .bool u.p.s, .slice u.p.A u.p.xs.length u.p.a, .slice u.p.B u.p.ys.length u.p.b, .int .i64 u.el] 30); have J6 := hide (J5.out.next g6); have KO6 := hide (KO5.out.next g6); have KW6 := hide (KW5.out.next g6); have v0 := (Bk.new #[.int .i64 0, .bool b, .bool u.p.s, .slice u.p.A u.p.xs.length u.p.a, .slice u.p.B u.p.ys.length u.p.b, .int .i64 u.el] 30 w6).cell (j := 0) rfl; have v1 := (Bk.new #[.int .i64 0, .bool b, .bool u.p.s, .slice u.p.A u.p.xs.length u.p.a, .slice u.p.B u.p.ys.length u.p.b, .int .i64 u.el] 30 w6).cell (j := 1) rfl; have v2 := KW6.out.cell hcb.out; clear hb6 g6 J5 KO5 KW5 EVb m0)
            have e9 : ∀ W : World, (binOp .neq 4 (.bool b) (.bool b)).run Tryz.prog W = .ok (.bool false) W := fun W => by cases b <;> kernel_rfl
            generalize w6.alloc (.cells #[.int .i64 0, .bool b, .bool u.p.s, .slice u.p.A u.p.xs.length u.p.a, .slice u.p.B u.p.ys.length u.p.b, .int .i64 u.el] 30) = w7 at *
            generalize w6.heap.size = gv at *
            go_quiet (fail)
            go_wp2
            go_roundw
            case rel => exact ⟨i + 1, k + 1, hlt, by rw [hk.out]; omega, by go_num, J6.out.next (bel_dn w7 nq), KO6.out.next (bel_dn w7 nq), KW6.out.next (bel_dn w7 nq)⟩
            case measure => simp only [intOf]; omega
          · have hi6 : i = 6 := by omega
            subst hi6
            (try rw [show ((6 : Nat) : Int) = 6 from rfl])
            obtain rfl : k = 10 := hk
            go_upto_region 26 with (fail)
            have J1 := hide ((J.arr #[.int .i64 17, .int .i64 18, .int .i64 19, .int .i64 20, .int .i64 8, .int .i64 9] 3).lessZ (Z' := [wr.heap.size]) (by simp))
            have KO2 := hide (Bk.new #[.int .i64 17, .int .i64 18, .int .i64 19, .int .i64 20, .int .i64 8, .int .i64 9] 3 wr)
            clear J KO KW hi hlt hcw
            generalize wr.alloc (.cells #[.int .i64 17, .int .i64 18, .int .i64 19, .int .i64 20, .int .i64 8, .int .i64 9] 3) = W3 at *
            generalize wr.heap.size = go2 at *
            go_upto_region 27 with (fail)
            have J := hide (J1.out.arr #[.bool (decide (x ≤ y)), .bool (decide (x < y)), .bool (decide (y ≤ x)), .bool (decide (y < x)), .bool (x == y), .bool (x != y)] 4)
            have KW := hide (Bk.new #[.bool (decide (x ≤ y)), .bool (decide (x < y)), .bool (decide (y ≤ x)), .bool (decide (y < x)), .bool (x == y), .bool (x != y)] 4 W3)
            have KO := hide (KO2.out.al (.cells #[.bool (decide (x ≤ y)), .bool (decide (x < y)), .bool (decide (y ≤ x)), .bool (decide (y < x)), .bool (x == y), .bool (x != y)] 4))
            have hcw : Hid (∀ i, i < 6 → (#[.bool (decide (x ≤ y)), .bool (decide (x < y)), .bool (decide (y ≤ x)), .bool (decide (y < x)), .bool (x == y), .bool (x != y)] : Array Value)[i]? = some (.bool ((lgB x y).getD i false))) := hide (fun i hi => by
              have h6 : i = 0 ∨ i = 1 ∨ i = 2 ∨ i = 3 ∨ i = 4 ∨ i = 5 := by omega
              rcases h6 with rfl | rfl | rfl | rfl | rfl | rfl <;> first | rfl | (simp only [lgB, List.getD_cons_succ, List.getD_cons_zero, List.getElem?_toArray, List.getElem?_cons_succ, List.getElem?_cons_zero]; congr 2; by_cases hxy : x = y <;> simp [hxy]))
            clear KO2 J1
            generalize W3.alloc (.cells #[.bool (decide (x ≤ y)), .bool (decide (x < y)), .bool (decide (y ≤ x)), .bool (decide (y < x)), .bool (x == y), .bool (x != y)] 4) = W4 at *
            generalize (#[.bool (decide (x ≤ y)), .bool (decide (x < y)), .bool (decide (y ≤ x)), .bool (decide (y < x)), .bool (x == y), .bool (x != y)] : Array Value) = cw2 at *
            generalize W3.heap.size = gw2 at *
            go_wp2
            go_loopw [24] (fun ii wr => ∃ (i k : Nat), i ≤ 6 ∧ k = 10 + i ∧ ii = .int .i64 (i : Int) ∧ Lg B w g k gi gt gb p q x y rx ry [gw2, go2] wr ∧ Bk go2 #[.int .i64 17, .int .i64 18, .int .i64 19, .int .i64 20, .int .i64 8, .int .i64 9] 3 wr ∧ Bk gw2 cw2 4 wr) (fun ii _ => 6 - (intOf ii).toNat)
            case atStart => exact ⟨0, 10, by decide, rfl, rfl, J.out, KO.out, KW.out⟩
            case round =>
              clear J KO KW
              obtain ⟨i, k, hi, hk, rfl, J, KO, KW⟩ := hrel
              by_cases hlt : i < 6
              · obtain ⟨b, hb⟩ : ∃ b, b = (lgB x y).getD i false := ⟨_, rfl⟩
                have hkc := lgB_at (p := p) (q := q) (x := x) (y := y) i hlt
                have hcb := hcw.out i hlt
                rw [← hb] at hkc hcb
                rw [← hk] at hkc
                have y0 : ∀ W, Below wr.heap.size wr W → W.cell? ⟨go2, i, none⟩ = some (.int .i64 (Nt.opB.getD i 0)) := fun W hW => by
                  have K := KO.next hW
                  have h6 : i = 0 ∨ i = 1 ∨ i = 2 ∨ i = 3 ∨ i = 4 ∨ i = 5 := by omega
                  rcases h6 with rfl | rfl | rfl | rfl | rfl | rfl <;> exact K.cell rfl
                have MK := hide (fun W (hW : Below wr.heap.size wr W) => (J.next hW).opB i k hlt hk)
                generalize Nt.opB.getD i 0 = o at *
                have SS := hide (fun W (hW : Below wr.heap.size wr W) => (show (W.cell? ⟨go2, i, none⟩ = some (.int .i64 o) ∧ W.cell? ⟨gi, 2, none⟩ = some (.int .i64 2) ∧ W.cell? ⟨gi, 3, none⟩ = some (.int .i64 3)) from ⟨y0 W hW, (J.next hW).ids 2 (by decide), (J.next hW).ids 3 (by decide)⟩))
                have k18 : k < 18 := by omega
                replace J := hide J; replace KO := hide KO; replace KW := hide KW; replace hb := hide hb; replace hkc := hide hkc; replace hcb := hide hcb; replace hk := hide hk
                clear y0
                have bb := bel_dr wr
                go_wp2
                refine wp_region_held_drew (S := fun W => (W.cell? ⟨go2, i, none⟩ = some (.int .i64 o) ∧ W.cell? ⟨gi, 2, none⟩ = some (.int .i64 2) ∧ W.cell? ⟨gi, 3, none⟩ = some (.int .i64 3))) (by kernel_rfl) ?_ (fun hHeld => ?_)
                · (try dsimp only)
                  with_reducible exact SS.out _ bb
                generalize wr.drew = wd at *
                refine tkH 0 (h := ?_)
                refine tkH 1 (h := ?_)
                refine tkH 2 (h := ?_)
                refine tkH 3 (h := ?_)
                refine tkH 4 (h := ?_)
                refine tkH 5 (h := ?_)
                refine tkH 6 (h := ?_)
                refine tkH 7 (h := ?_)
                refine tkH 8 (h := ?_)
                refine tkH 9 (h := ?_)
                refine tkH 10 (h := ?_)
                refine tkH 11 (h := ?_)
                refine rdH 12 (h := fun K hK => ?_)
                go_simp
                refine hK.out _ _ ?_ (fun hHeld => ?_)
                · (try dsimp only)
                  with_reducible exact SS.out _ (bl_al bb _)
                (try clear hK K)
                (try simp only [Act.put, List.setIfInBounds_toArray, List.set_cons_zero, List.set_cons_succ])
                refine rdH 13 (h := fun K hK => ?_)
                go_simp
                (go_at_call 28; (with_reducible refine (MK.out _ bb).mono ?_); rintro e w5 ⟨rfl, J5, S5⟩; have KO5 := (KO.out.next bb).same S5 (by simp); have KW5 := (KW.out.next bb).same S5 (by simp); have SC := SS.out _ bb; have S6 := hide (show (w5.cell? ⟨go2, i, none⟩ = some (.int .i64 o) ∧ w5.cell? ⟨gi, 2, none⟩ = some (.int .i64 2) ∧ w5.cell? ⟨gi, 3, none⟩ = some (.int .i64 3)) from ⟨(World.cell?_of_block (S5 go2 (by simp))).trans SC.1, J5.ids 2 (by decide), J5.ids 3 (by decide)⟩); replace J5 := hide J5; replace KO5 := hide KO5; replace KW5 := hide KW5; clear S5 SC MK J KO KW)
                (try go_wp2_with fail)
                refine hK.out _ _ ?_ (fun hHeld => ?_)
                · (try dsimp only)
                  with_reducible exact S6.out
                (try clear hK K)
                (try simp only [Act.put, List.setIfInBounds_toArray, List.set_cons_zero, List.set_cons_succ])
                refine tkH 14 (h := ?_)
                refine tkH 15 (h := ?_)
                refine tkH 16 (h := ?_)
                refine tkH 17 (h := ?_)
                refine tkH 18 (h := ?_)
                refine wpAnyH_done (by kernel_rfl) ?_ _
                have m0 := J5.out.bb.cell (j := 0) rfl
                have EVb := hide (J5.out.evb bx.out by_.out (by omega) k (by omega) b hkc.out)
                go_wp2_with (go_at_call 30; (with_reducible refine EVb.out.mono ?_); rintro e w6 ⟨u, rfl, hb6⟩; have g6 := bl_al hb6 (.cells #[.int .i64 0, .bool b, .bool u.p.s, .slice u.p.A u.p.xs.length u.p.a, .slice u.p.B u.p.ys.length u.p.b, .int .i64 u.el] 30); have J6 := hide (J5.out.next g6); have KO6 := hide (KO5.out.next g6); have KW6 := hide (KW5.out.next g6); have v0 := (Bk.new #[.int .i64 0, .bool b, .bool u.p.s, .slice u.p.A u.p.xs.length u.p.a, .slice u.p.B u.p.ys.length u.p.b, .int .i64 u.el] 30 w6).cell (j := 0) rfl; have v1 := (Bk.new #[.int .i64 0, .bool b, .bool u.p.s, .slice u.p.A u.p.xs.length u.p.a, .slice u.p.B u.p.ys.length u.p.b, .int .i64 u.el] 30 w6).cell (j := 1) rfl; have v2 := KW6.out.cell hcb.out; clear hb6 g6 J5 KO5 KW5 EVb m0)
                have e9 : ∀ W : World, (binOp .neq 4 (.bool b) (.bool b)).run Tryz.prog W = .ok (.bool false) W := fun W => by cases b <;> kernel_rfl
                generalize w6.alloc (.cells #[.int .i64 0, .bool b, .bool u.p.s, .slice u.p.A u.p.xs.length u.p.a, .slice u.p.B u.p.ys.length u.p.b, .int .i64 u.el] 30) = w7 at *
                generalize w6.heap.size = gv at *
                go_quiet (fail)
                go_wp2
                go_roundw
                case rel => exact ⟨i + 1, k + 1, hlt, by rw [hk.out]; omega, by go_num, J6.out.next (bel_dn w7 nq), KO6.out.next (bel_dn w7 nq), KW6.out.next (bel_dn w7 nq)⟩
                case measure => simp only [intOf]; omega
              · have hi6 : i = 6 := by omega
                subst hi6
                (try rw [show ((6 : Nat) : Int) = 6 from rfl])
                obtain rfl : k = 16 := hk
                have y0 : wr.cell? ⟨gi, 0, none⟩ = some (.int .i64 0) := J.ids 0 (by decide)
                have MK := hide J.not
                clear KO KW hi hlt hcw
                go_upto_region 35 with (go_at_call 28; (with_reducible refine MK.out.mono ?_); rintro e w5 ⟨rfl, J5, S5⟩; clear S5 J)
                replace J5 := hide J5
                have SS := hide (fun W (hW : Below w5.heap.size w5 W) => (show (W.cell? ⟨gi, 2, none⟩ = some (.int .i64 2) ∧ W.cell? ⟨gi, 3, none⟩ = some (.int .i64 3)) from ⟨(J5.out.next hW).ids 2 (by decide), (J5.out.next hW).ids 3 (by decide)⟩))
                have MI := hide (fun W (hW : Below w5.heap.size w5 W) => (J5.out.next hW).ite)
                have bb := bel_dr w5
                clear MK y0
                refine wp_region_held_drew (S := fun W => (W.cell? ⟨gi, 2, none⟩ = some (.int .i64 2) ∧ W.cell? ⟨gi, 3, none⟩ = some (.int .i64 3))) (by kernel_rfl) ?_ (fun hHeld => ?_)
                · (try dsimp only)
                  with_reducible exact SS.out _ bb
                generalize w5.drew = wd at *
                refine tkH 0 (h := ?_)
                refine tkH 1 (h := ?_)
                refine tkH 2 (h := ?_)
                refine tkH 3 (h := ?_)
                refine tkH 4 (h := ?_)
                refine tkH 5 (h := ?_)
                refine tkH 6 (h := ?_)
                refine tkH 7 (h := ?_)
                refine tkH 8 (h := ?_)
                refine rdH 9 (h := fun K hK => ?_)
                go_simp
                refine hK.out _ _ ?_ (fun hHeld => ?_)
                · (try dsimp only)
                  with_reducible exact SS.out _ (bl_al bb _)
                (try clear hK K)
                (try simp only [Act.put, List.setIfInBounds_toArray, List.set_cons_zero, List.set_cons_succ])
                refine rdH 10 (h := fun K hK => ?_)
                go_simp
                (go_at_call 28; (with_reducible refine (MI.out _ bb).mono ?_); rintro e w6 ⟨rfl, J6, S6⟩; clear S6; have S7 := hide (show (w6.cell? ⟨gi, 2, none⟩ = some (.int .i64 2) ∧ w6.cell? ⟨gi, 3, none⟩ = some (.int .i64 3)) from ⟨J6.ids 2 (by decide), J6.ids 3 (by decide)⟩); replace J6 := hide J6; clear MI J5)
                (try go_wp2_with fail)
                refine hK.out _ _ ?_ (fun hHeld => ?_)
                · (try dsimp only)
                  with_reducible exact S7.out
                (try clear hK K)
                (try simp only [Act.put, List.setIfInBounds_toArray, List.set_cons_zero, List.set_cons_succ])
                refine tkH 11 (h := ?_)
                refine tkH 12 (h := ?_)
                refine tkH 13 (h := ?_)
                refine tkH 14 (h := ?_)
                refine tkH 15 (h := ?_)
                refine wpAnyH_done (by kernel_rfl) ?_ _
                have m0 := J6.out.bb.cell (j := 0) rfl
                obtain ⟨z, hz, hcv⟩ : ∃ z, z = (if p = true then y else x) ∧ (lgV p q x y)[17]? = some (cq (Rat.divInt z 7)) := ⟨_, rfl, by cases p <;> rfl⟩
                have EV := J6.out.ev bx.out by_.out (by decide) 17 (by decide) _ hcv
                rw [show ((17 : Nat) : Int) = 17 from rfl] at EV
                replace EV := hide EV
                go_upto_region 37 with (go_at_call 30; (with_reducible refine EV.out.mono ?_); rintro e w7 ⟨u, rfl, V7, hb7⟩)
                have BU7 := hide (Bk.new #[.int .i64 u.so, .bool u.bo, .bool u.p.s, .slice u.p.A u.p.xs.length u.p.a, .slice u.p.B u.p.ys.length u.p.b, .int .i64 u.el] 30 w7)
                have g7 : Below w7.heap.size w7 (w7.alloc (.cells #[.int .i64 u.so, .bool u.bo, .bool u.p.s, .slice u.p.A u.p.xs.length u.p.a, .slice u.p.B u.p.ys.length u.p.b, .int .i64 u.el] 30)) := bl_al (.refl _ _) _
                have V8 := hide (V7.next g7)
                have L8 : Hid (Below w.heap.size w (w7.alloc (.cells #[.int .i64 u.so, .bool u.bo, .bool u.p.s, .slice u.p.A u.p.xs.length u.p.a, .slice u.p.B u.p.ys.length u.p.b, .int .i64 u.el] 30))) := hide (by
                  have hL := J6.out.tt.below
                  rw [hB.out] at hL
                  exact bl_trans (bl_trans hL hb7) g7)
                have gu8 : w7.heap.size < (w7.alloc (.cells #[.int .i64 u.so, .bool u.bo, .bool u.p.s, .slice u.p.A u.p.xs.length u.p.a, .slice u.p.B u.p.ys.length u.p.b, .int .i64 u.el] 30)).heap.size := by simp
                clear V7 hb7 g7 EV hcv J6 m0
                generalize w7.alloc (.cells #[.int .i64 u.so, .bool u.bo, .bool u.p.s, .slice u.p.A u.p.xs.length u.p.a, .slice u.p.B u.p.ys.length u.p.b, .int .i64 u.el] 30) = w8 at *
                generalize w7.heap.size = gu at *
                go_upto_region 38 with (go_at_call 29; (with_reducible refine (NX.out _).mono ?_); rintro e w9 ⟨r1, rfl, n1, f1, b9⟩; clear f1)
                have g9 : Below w9.heap.size w9 (w9.alloc (.cells #[.int .i64 1, .bool false, .bool r1.s, .slice r1.A r1.xs.length r1.a, .slice r1.B r1.ys.length r1.b, .int .i64 0] 30)) := bl_al (.refl _ _) _
                have b10 := bl_trans b9 g9
                have BX := hide (Bk.new #[.int .i64 1, .bool false, .bool r1.s, .slice r1.A r1.xs.length r1.a, .slice r1.B r1.ys.length r1.b, .int .i64 0] 30 w9)
                have BU := hide (BU7.out.next b10)
                have V := hide (V8.out.next b10)
                have N1 := hide (n1.next g9)
                have L10 := hide (bl_trans L8.out b10)
                have hgu : gu < w9.heap.size := Nat.lt_of_lt_of_le gu8 b9.size
                have hgx : w.heap.size ≤ w9.heap.size := Nat.le_trans L8.out.size b9.size
                clear V8 BU7 L8 n1 g9 b9 b10 gu8
                generalize w9.alloc (.cells #[.int .i64 1, .bool false, .bool r1.s, .slice r1.A r1.xs.length r1.a, .slice r1.B r1.ys.length r1.b, .int .i64 0] 30) = w10 at *
                generalize w9.heap.size = gx at *
                cases hpc : p
                · skip
                  rw [hpc] at hz
                  rw [show z = x from hz] at V
                  have LL := L10
                  obtain ⟨a0, a1, a2, a3, a4, a5⟩ := C6.of BU.out
                  obtain ⟨c0, c1, c2, c3, c4, c5⟩ := C6.of BX.out
                  have SM := hide (same_e u r1 _ (Rat.divInt x 7) _ V.out N1.out rfl)
                  have AW := hide awake10_any
                  go_wp2_with (first
                    | (go_at_call 14; (with_reducible refine SM.out.mono ?_); rintro e wm ⟨rfl, hb⟩; have L := hide (bl_trans LL.out hb); clear hb)
                    | (go_at_call 9; (with_reducible refine (AW.out _).mono ?_); rintro e we ⟨rfl, hb⟩; have L' := bl_trans L.out hb))
                  go_ret
                  exact ⟨rfl, L'⟩
                · skip
                  rw [hpc] at hz
                  rw [show z = y from hz] at V
                  obtain ⟨k0, k1, k2, k3, k4, k5⟩ := free6 BX.out
                  go_upto_region 40 with (go_at_call 29; (with_reducible refine (NY.out _).mono ?_); rintro e w11 ⟨r2, rfl, n2, f2, b11⟩; clear f2 k0 k1 k2 k3 k4 k5; obtain ⟨k0, k1, k2, k3, k4, k5⟩ := free6 (BX.out.next b11); obtain ⟨q0, q1, q2, q3, q4, q5⟩ := C6.of (BX.out.next b11))
                  obtain ⟨F, hF⟩ : ∃ F, F = set6 w11 gx (.int .i64 1) (.bool false) (.bool r2.s) (.slice r2.A r2.xs.length r2.a) (.slice r2.B r2.ys.length r2.b) (.int .i64 0) := ⟨_, rfl⟩
                  have hO := off_set6 w11 gx (.int .i64 1) (.bool false) (.bool r2.s) (.slice r2.A r2.xs.length r2.a) (.slice r2.B r2.ys.length r2.b) (.int .i64 0)
                  have hK := Lks.of_bk (BX.out.next b11) (by intro v hv; simp at hv; rcases hv with rfl | rfl | rfl | rfl | rfl | rfl <;> rfl) hO
                  have BX' := hide (bk_set6 (BX.out.next b11) (.int .i64 1) (.bool false) (.bool r2.s) (.slice r2.A r2.xs.length r2.a) (.slice r2.B r2.ys.length r2.b) (.int .i64 0))
                  have BU' := hide ((BU.out.next b11).off hO (by simp; omega))
                  have V' := hide (show Vx u _ _ from ⟨V.out.cn, ⟨hK _ _ (V.out.next b11).at_.1, hK _ _ (V.out.next b11).at_.2⟩, V.out.few⟩)
                  have N2 := hide (show Nq r2 _ _ from ⟨n2.q, n2.ok, hK _ _ n2.at_.1, hK _ _ n2.at_.2⟩)
                  have L11 := hide ((bl_trans L10.out b11).trans (hO.below (bl_trans L10.out b11).size (by intro b hb; simp at hb; omega)))
                  rw [← hF] at BX' BU' V' N2 L11
                  unfold set6 at hF
                  rw [← hF]
                  clear hF hO hK BX BU V L10 n2 b11 k0 k1 k2 k3 k4 k5 q0 q1 q2 q3 q4 q5
                  have BX := BX'
                  have BU := BU'
                  have V := V'
                  have LL := L11
                  obtain ⟨a0, a1, a2, a3, a4, a5⟩ := C6.of BU.out
                  obtain ⟨c0, c1, c2, c3, c4, c5⟩ := C6.of BX.out
                  have SM := hide (same_e u r2 _ (Rat.divInt y 7) _ V.out N2.out rfl)
                  have AW := hide awake10_any
                  go_wp2_with (first
                    | (go_at_call 14; (with_reducible refine SM.out.mono ?_); rintro e wm ⟨rfl, hb⟩; have L := hide (bl_trans LL.out hb); clear hb)
                    | (go_at_call 9; (with_reducible refine (AW.out _).mono ?_); rintro e we ⟨rfl, hb⟩; have L' := bl_trans L.out hb))
                  go_ret
                  exact ⟨rfl, L'⟩
end
section
open Go.ChangeShapes Go.WideShapes Go.ChangeAt Go.RowKit
theorem own : ownKnob Tryz.prog.godebug = none := by kernel_rfl
theorem law_post {H : Type} {enc : TypeId × Value → H} {P : Program} {f : Func} {s : ChangeSpec} {W W' : World} {args : Array Value} {v : Value} {ds gs : List (DataW H)} {before : List MemPlace}
    (hW : DataW.Whole enc P f.params.toList s.vars false W args.toList ds gs before) (hb : Below W.heap.size W W')
    (hargs : ∀ sp : Nat → Bool, (∀ p ∈ before, sp p.block = true) → DataW.TrodAll enc P W' 0 sp true f.params.toList args.toList (s.fn H (ds ++ gs)).args before)
    (hvars : ∀ sp : Nat → Bool, DataW.TrodVars enc P W' sp s.vars (s.fn H (ds ++ gs)).vars [])
    (hres : ∀ (b : Nat) (sp : Nat → Bool) (hd : Bool), DataW.TrodAll enc P W' b sp hd f.resultTypes.toList (v.resultList f.resultTypes.size) (s.fn H (ds ++ gs)).results [])
    (hok : ∀ (j : Nat) (t : TypeId) (r : Value), f.resultTypes[j]? = some t → (v.resultList f.resultTypes.size)[j]? = some r → Value.okWide P W' .any 0 t r) :
    s.post enc P f false true false false W args v W' := by
  have hlt : ∀ p ∈ before, p.block < W.heap.size := fun p hp => hW.lt p hp
  have low : ∀ p ∈ before, (fun b => decide (b < W.heap.size)) p.block = true := fun p hp => decide_eq_true (hlt p hp)
  have fr := hb.frame (· ∈ before)
  obtain ⟨_, _, _, _, _, hz, _⟩ := id hW
  refine ⟨ds, gs, before, [], before, [], hW, hres _ _ _, hargs _ low, hvars _, World.keptBut_mono (fun p hp => ⟨hp, .inr (.inl hp)⟩) fr, fun _ => ⟨hok, _, _, ([] ++ before) ++ [], ⟨[] ++ before, [], trodAll_append (hargs _ (fun _ _ => rfl)) (hres _ _ _), hvars _, rfl, ?_, ?_⟩, ?_⟩⟩
  · intro b off hp
    have hin : MemPlace.cell b off ∈ before := by simpa using hp
    rw [hb.frozen (hlt _ hin)]
    exact hz b off hin
  · intro ha
    cases ha
  · intro p hp _
    simpa using hp
noncomputable def lw (os : Os) : World := World.laidAll Tryz.prog os Rows.modelTablesTellRow.laid
theorem lw_met (os : Os) (args : Array Value) : laidMet Tryz.prog Rows.modelTablesTellRow.laid ((lw os).forCall (fun _ _ => 0) ⟨#[], args, []⟩).memory :=
  laidMet_laidAll args (by kernel_rfl) (by kernel_rfl)
end
end Nt
end Go.Proofs.YthabfakbdfaciaaGreat
