import Derived.Test.YthabfakbdfaciaaGreatOB17
import Derived.Test.YthabfakbdfaciaaGreatOB8
import Derived.Deep.DeepCutAuto
import Derived.Deep.CutBlock
import Derived.Test.YthabfakbdfaciaaGreatRows
import Derived.Test.YthabfakbdfaciaaGreatOB16
import Derived.WalkKit
import Derived.ProofKit
import Derived.OpenShut
import Derived.Lay
import Derived.Stop.LaidErr
import Derived.Deep.DeepHandedRow
import Derived.Lib.LaidTab
import Derived.Lib.SmallJoins
namespace Go.Proofs.YthabfakbdfaciaaGreat
namespace Nt
set_option maxRecDepth 100000
set_option linter.unusedSimpArgs false
set_option linter.unusedVariables false
set_option maxHeartbeats 16000000
section
open Go.ChangeShapes Go.RowKit
def smC (c : UInt8) : Nd := ⟨12, ⟨#[c]⟩, false, [], [], [], 1, 0⟩
def smT : Nd := ⟨11, ⟨#[]⟩, true, [2], [3], [], 1, 2⟩
def smB : List Nd := [smC 120, smC 121, smC 122]
def smOp (i : Nat) : Int := ([13, 14, 15, 16, 14, 18, 19, 9] : List Int).getD i 0
def smA (i : Nat) : List Int := ([[0, 1, 2], [0, 1, 2], [3, 0], [0, 3, 3], [0], [0, 1, 2], [0, 1, 2], [0, 1, 2]] : List (List Int)).getD i []
def smS (i : Nat) : Int := ([1, 1, 1, 1, 1, 0, 0, 0] : List Int).getD i 0
def smL (i : Nat) : Nd := ⟨smOp i, ⟨#[]⟩, false, [], [], smA i, smS i, 0⟩
def smX (x y z : Int) (j : Nat) : Int := ([x, y, z] : List Int).getD j 0
def smN (i : Nat) : List Nd := smB ++ [smT, smL i]
def smNm (j : Nat) : ByteArray := ([⟨#[120]⟩, ⟨#[121]⟩, ⟨#[122]⟩] : List ByteArray).getD j ⟨#[]⟩
def smTb (rs : List Pt) : List Tr := List.zipWith (fun s r => ⟨s, none, [], 0, nmV r⟩) [⟨#[120]⟩, ⟨#[121]⟩, ⟨#[122]⟩] rs
theorem smTb_push (rs : List Pt) (r : Pt) (h : rs.length < 3) : smTb (rs ++ [r]) = smTb rs ++ [⟨smNm rs.length, none, [], 0, nmV r⟩] := by
  match rs, h with
  | [], _ => rfl
  | [a], _ => rfl
  | [a, b], _ => rfl
theorem smTb_len (rs : List Pt) (h : rs.length ≤ 3) : (smTb rs).length = rs.length := by
  unfold smTb
  rw [List.length_zipWith]
  show min 3 rs.length = _
  omega
def smR (i : Nat) (x y z : Int) : CV := ([cq (Rat.divInt (x + y + z) 2), cq (Rat.divInt (x - y - z) 2), cq (Rat.divInt (-x) 3), cq (Rat.divInt (9 * x) 8), cq (Rat.divInt (-x) 2), tv (decide (x < y) && decide (y < z)), tv (decide (y ≤ x) && decide (z ≤ y)), tv (decide (x ≠ y ∧ y ≠ z ∧ x ≠ z))] : List CV).getD i (tv false)
def smV (i : Nat) (x y z : Int) : List CV := [cq (Rat.divInt x 2), cq (Rat.divInt y 2), cq (Rat.divInt z 2), cq (Rat.divInt (-2) 3), smR i x y z]
theorem sm_wt (i : Nat) (hi : i < 8) : ∀ k (hk : k < (smN i).length), 1 + ((smN i)[k].ar.map (fun a => ([1, 1, 1, 1, 4] : List Nat).getD a.toNat 0)).sum ≤ ([1, 1, 1, 1, 4] : List Nat).getD k 0 := by
  have h : ∀ i : _root_.Fin 8, ∀ k : _root_.Fin 5, 1 + (((smN i).getD k smT).ar.map (fun a => ([1, 1, 1, 1, 4] : List Nat).getD a.toNat 0)).sum ≤ ([1, 1, 1, 1, 4] : List Nat).getD k 0 := by decide
  intro k hk
  have := h ⟨i, hi⟩ ⟨k, hk⟩
  rw [List.getD_eq_getElem?_getD, List.getElem?_eq_getElem hk] at this
  exact this
section
variable {tbs : List Tr} {x y z : Int}
theorem sm_fit (n d : Int) (hn : n.natAbs ≤ 100000) (h0 : d ≠ 0) (hd : d.natAbs ≤ 100) : fitq (Rat.divInt n d) := fit_div n d (by omega) h0 (by omega)
theorem sm_mt (i : Nat) (hi : i < 8) (bx : x.natAbs ≤ 1000) (by_ : y.natAbs ≤ 1000) (bz : z.natAbs ≤ 1000) : ∃ cs, ((smA i).map fun a => (smV i x y z)[a.toNat]?) = cs.map some ∧ MadeTo tbs (smL i) cs (smR i x y z) := by
  have fx := sm_fit x 2 (by omega) (by decide) (by decide)
  have fy := sm_fit y 2 (by omega) (by decide) (by decide)
  have fz := sm_fit z 2 (by omega) (by decide) (by decide)
  have ft := sm_fit (-2) 3 (by decide) (by decide) (by decide)
  have ne : Rat.divInt (-2) 3 ≠ 0 := by decide +kernel
  have h8 : i = 0 ∨ i = 1 ∨ i = 2 ∨ i = 3 ∨ i = 4 ∨ i = 5 ∨ i = 6 ∨ i = 7 := by omega
  rcases h8 with rfl | rfl | rfl | rfl | rfl | rfl | rfl | rfl
  · refine ⟨[cq (Rat.divInt x 2), cq (Rat.divInt y 2), cq (Rat.divInt z 2)], rfl, ?_⟩
    have e1 : gQ 13 (Rat.divInt x 2) [Rat.divInt y 2] = Rat.divInt (x + y) 2 := by
      show Rat.divInt x 2 + Rat.divInt y 2 = _
      simp only [Rat.divInt_eq_div]; grind
    have e2 : gQ 13 (Rat.divInt x 2) [Rat.divInt y 2, Rat.divInt z 2] = Rat.divInt (x + y + z) 2 := by
      show Rat.divInt x 2 + Rat.divInt y 2 + Rat.divInt z 2 = _
      simp only [Rat.divInt_eq_div]; grind
    have h := mt_reck (tbs := tbs) (n := smL 0) (.inl rfl) (Rat.divInt x 2) [Rat.divInt y 2, Rat.divInt z 2] (by simp) (by simp) ⟨fx, by intro r hr; simp only [List.mem_cons, List.not_mem_nil, or_false] at hr; rcases hr with rfl | rfl <;> assumption⟩ (fun k hk => by
      have : k = 0 ∨ k = 1 ∨ k = 2 := by simp at hk; omega
      rcases this with rfl | rfl | rfl
      · exact fx
      · exact e1 ▸ sm_fit (x + y) 2 (by omega) (by decide) (by decide)
      · exact e2 ▸ sm_fit (x + y + z) 2 (by omega) (by decide) (by decide)) (fun h => by cases h)
    rw [show (smL 0).op = 13 from rfl, e2] at h
    exact h
  · refine ⟨[cq (Rat.divInt x 2), cq (Rat.divInt y 2), cq (Rat.divInt z 2)], rfl, ?_⟩
    have e1 : gQ 14 (Rat.divInt x 2) [Rat.divInt y 2] = Rat.divInt (x - y) 2 := by
      show Rat.divInt x 2 - Rat.divInt y 2 = _
      simp only [Rat.divInt_eq_div]; grind
    have e2 : gQ 14 (Rat.divInt x 2) [Rat.divInt y 2, Rat.divInt z 2] = Rat.divInt (x - y - z) 2 := by
      show Rat.divInt x 2 - Rat.divInt y 2 - Rat.divInt z 2 = _
      simp only [Rat.divInt_eq_div]; grind
    have h := mt_reck (tbs := tbs) (n := smL 1) (.inr (.inl rfl)) (Rat.divInt x 2) [Rat.divInt y 2, Rat.divInt z 2] (by simp) (by simp) ⟨fx, by intro r hr; simp only [List.mem_cons, List.not_mem_nil, or_false] at hr; rcases hr with rfl | rfl <;> assumption⟩ (fun k hk => by
      have : k = 0 ∨ k = 1 ∨ k = 2 := by simp at hk; omega
      rcases this with rfl | rfl | rfl
      · exact fx
      · exact e1 ▸ sm_fit (x - y) 2 (by omega) (by decide) (by decide)
      · exact e2 ▸ sm_fit (x - y - z) 2 (by omega) (by decide) (by decide)) (fun h => by cases h)
    rw [show (smL 1).op = 14 from rfl, e2] at h
    exact h
  · refine ⟨[cq (Rat.divInt (-2) 3), cq (Rat.divInt x 2)], rfl, ?_⟩
    have e1 : gQ 15 (Rat.divInt (-2) 3) [Rat.divInt x 2] = Rat.divInt (-x) 3 := by
      show Rat.divInt (-2) 3 * Rat.divInt x 2 = _
      simp only [Rat.divInt_eq_div]; grind
    have h := mt_reck (tbs := tbs) (n := smL 2) (.inr (.inr (.inl rfl))) (Rat.divInt (-2) 3) [Rat.divInt x 2] (by simp) (by simp) ⟨ft, by intro r hr; simp only [List.mem_cons, List.not_mem_nil, or_false] at hr; subst hr; assumption⟩ (fun k hk => by
      have : k = 0 ∨ k = 1 := by simp at hk; omega
      rcases this with rfl | rfl
      · exact ft
      · exact e1 ▸ sm_fit (-x) 3 (by omega) (by decide) (by decide)) (fun h => by cases h)
    rw [show (smL 2).op = 15 from rfl, e1] at h
    exact h
  · refine ⟨[cq (Rat.divInt x 2), cq (Rat.divInt (-2) 3), cq (Rat.divInt (-2) 3)], rfl, ?_⟩
    have e1 : gQ 16 (Rat.divInt x 2) [Rat.divInt (-2) 3] = Rat.divInt (-3 * x) 4 := by
      show Rat.divInt x 2 / Rat.divInt (-2) 3 = _
      simp only [Rat.divInt_eq_div]; grind
    have e2 : gQ 16 (Rat.divInt x 2) [Rat.divInt (-2) 3, Rat.divInt (-2) 3] = Rat.divInt (9 * x) 8 := by
      show Rat.divInt x 2 / Rat.divInt (-2) 3 / Rat.divInt (-2) 3 = _
      simp only [Rat.divInt_eq_div]; grind
    have h := mt_reck (tbs := tbs) (n := smL 3) (.inr (.inr (.inr rfl))) (Rat.divInt x 2) [Rat.divInt (-2) 3, Rat.divInt (-2) 3] (by simp) (by simp) ⟨fx, by intro r hr; simp only [List.mem_cons, List.not_mem_nil, or_false] at hr; rcases hr with rfl | rfl <;> assumption⟩ (fun k hk => by
      have : k = 0 ∨ k = 1 ∨ k = 2 := by simp at hk; omega
      rcases this with rfl | rfl | rfl
      · exact fx
      · exact e1 ▸ sm_fit (-3 * x) 4 (by omega) (by decide) (by decide)
      · exact e2 ▸ sm_fit (9 * x) 8 (by omega) (by decide) (by decide)) (fun _ r hr => by simp only [List.mem_cons, List.not_mem_nil, or_false] at hr; rcases hr with rfl | rfl <;> exact ne)
    rw [show (smL 3).op = 16 from rfl, e2] at h
    exact h
  · exact ⟨[cq (Rat.divInt x 2)], rfl, mt_sub1 (n := smL 4) rfl (Rat.divInt x 2) (Rat.divInt (-x) 2) fx (by simp only [Rat.divInt_eq_div]; grind) (sm_fit (-x) 2 (by omega) (by decide) (by decide))⟩
  · refine ⟨[cq (Rat.divInt x 2), cq (Rat.divInt y 2), cq (Rat.divInt z 2)], rfl, ?_⟩
    have h := mt_chain (tbs := tbs) (n := smL 5) _ (.inr (.inl ⟨rfl, rfl⟩)) (Rat.divInt x 2) [Rat.divInt y 2, Rat.divInt z 2] (by simp) (by intro r hr; simp only [List.mem_cons, List.not_mem_nil, or_false] at hr; rcases hr with rfl | rfl | rfl <;> assumption)
    simp only [chainB, Bool.and_true, cmp_lt (x := x) (y := y) (d := 2) (by decide), cmp_lt (x := y) (y := z) (d := 2) (by decide)] at h
    exact h
  · refine ⟨[cq (Rat.divInt x 2), cq (Rat.divInt y 2), cq (Rat.divInt z 2)], rfl, ?_⟩
    have h := mt_chain (tbs := tbs) (n := smL 6) _ (.inr (.inr (.inl ⟨rfl, rfl⟩))) (Rat.divInt x 2) [Rat.divInt y 2, Rat.divInt z 2] (by simp) (by intro r hr; simp only [List.mem_cons, List.not_mem_nil, or_false] at hr; rcases hr with rfl | rfl | rfl <;> assumption)
    simp only [chainB, Bool.and_true, cmp_ge (x := x) (y := y) (d := 2) (by decide), cmp_ge (x := y) (y := z) (d := 2) (by decide)] at h
    exact h
  · refine ⟨[cq (Rat.divInt x 2), cq (Rat.divInt y 2), cq (Rat.divInt z 2)], rfl, ?_⟩
    have h := mt_unq3 (tbs := tbs) (n := smL 7) rfl (Rat.divInt x 2) (Rat.divInt y 2) (Rat.divInt z 2)
    rw [show decide (Rat.divInt x 2 ≠ Rat.divInt y 2 ∧ Rat.divInt y 2 ≠ Rat.divInt z 2 ∧ Rat.divInt x 2 ≠ Rat.divInt z 2) = decide (x ≠ y ∧ y ≠ z ∧ x ≠ z) from decide_eq_decide.2 (by rw [Ne, Ne, Ne, div_inj (by decide), div_inj (by decide), div_inj (by decide)])] at h
    exact h
theorem sm_ev (i : Nat) (hi : i < 8) (bx : x.natAbs ≤ 1000) (by_ : y.natAbs ≤ 1000) (bz : z.natAbs ≤ 1000) (rs : List Pt) (hl : rs.length = 3) (hq : ∀ j (h : j < rs.length), (nmV rs[j]).cn = cq (Rat.divInt (smX x y z j) 2)) : Ev (smN i) (smTb rs) (fun k => (smV i x y z)[k]?) (fun k => ([1, 1, 1, 1, 4] : List Nat).getD k 0) where
  in_ := fun k c hc => (List.getElem?_eq_some_iff.1 hc).1
  wt := fun k hk _ => sm_wt i hi k hk
  made := fun k c hk hc => by
    have hk' : k < 5 := hk
    match rs, hl with
    | [a, b, d], _ =>
      match k, hk' with
      | 0, _ =>
        obtain rfl : _ = c := Option.some.inj hc
        exact ⟨[], rfl, mt_con (n := smC 120) rfl (by decide) ⟨⟨#[120]⟩, none, [], 0, nmV a⟩ rfl rfl _ (hq 0 (by simp))⟩
      | 1, _ =>
        obtain rfl : _ = c := Option.some.inj hc
        exact ⟨[], rfl, mt_con (n := smC 121) rfl (by decide) ⟨⟨#[121]⟩, none, [], 0, nmV b⟩ rfl rfl _ (hq 1 (by simp))⟩
      | 2, _ =>
        obtain rfl : _ = c := Option.some.inj hc
        exact ⟨[], rfl, mt_con (n := smC 122) rfl (by decide) ⟨⟨#[122]⟩, none, [], 0, nmV d⟩ rfl rfl _ (hq 2 (by simp))⟩
      | 3, _ =>
        obtain rfl : _ = c := Option.some.inj hc
        exact ⟨[], rfl, mt_num (n := smT) rfl (Rat.divInt (-2) 3) (sm_fit (-2) 3 (by decide) (by decide) (by decide)) (by decide +kernel) (show [2] = _ by kernel_rfl) (show [3] = _ by kernel_rfl)⟩
      | 4, _ =>
        obtain rfl : _ = c := Option.some.inj hc
        exact sm_mt i hi bx by_ bz
end
structure Sm (B : Nat) (w0 : World) (g gn gm gb : Nat) (x y z : Int) (n : Nat) (ns : List Nd) (v : Value) (ids : List Int) (tw : Value) (rs : List Pt) (Z : List Nat) (W : World) : Prop where
  tt : Tt (v.ownBlock.toList ++ (tw.ownBlock.toList ++ Z)) B w0 W g n so0 (fuN 10) dcl ns
  gr : Gr rI gn W v ids
  tr : Gr rT gn W tw (smTb rs)
  zn : gn ∈ Z
  zm : gm ∈ Z
  zb : gb ∈ Z
  zp : ∀ r ∈ rs, ∀ b ∈ pb r, b ∈ Z
  zd : ∀ b ∈ Z, B ≤ b ∧ b ∉ v.ownBlock.toList ∧ b ∉ tw.ownBlock.toList
  vt : ∀ b ∈ v.ownBlock.toList, b ∉ tw.ownBlock.toList
  bn : Bk gn #[.string ⟨#[120]⟩, .string ⟨#[121]⟩, .string ⟨#[122]⟩] 9 W
  bm : Bk gm #[.int .i64 x, .int .i64 y, .int .i64 z] 3 W
  bb : Bk gb #[tw] 24 W
  nq : ∀ j (h : j < rs.length), Nq rs[j] (Rat.divInt (smX x y z j) 2) W
section
variable {B : Nat} {w0 : World} {g gn gm gb n : Nat} {ns : List Nd} {x y z : Int} {v tw : Value} {ids : List Int} {rs : List Pt} {Z Y : List Nat} {W W' W1 w5 : World}
theorem Sm.Bg (h : Sm B w0 g gn gm gb x y z n ns v ids tw rs Z W) : B ≤ gn ∧ gn < W.heap.size := ⟨(h.zd gn h.zn).1, h.bn.lt⟩
theorem Sm.lv (h : Sm B w0 g gn gm gb x y z n ns v ids tw rs Z W) : (∀ b ∈ v.ownBlock.toList, gn ≤ b ∧ b < W.heap.size) ∧ ∀ b ∈ tw.ownBlock.toList, gn ≤ b ∧ b < W.heap.size :=
  ⟨fun b hb => h.gr.base b (by simpa using hb), fun b hb => h.tr.base b (by simpa using hb)⟩
theorem Sm.zl (h : Sm B w0 g gn gm gb x y z n ns v ids tw rs Z W) : ∀ b ∈ Z, b < W.heap.size := fun b hb => h.tt.lt (List.mem_append_right _ (List.mem_append_right _ hb))
theorem Sm.turn (h : Sm B w0 g gn gm gb x y z n ns v ids tw rs Z W) (hb : Below W.heap.size W W') (hY : ∀ b ∈ Y, W.heap.size ≤ b ∧ b < W'.heap.size) : Sm B w0 g gn gm gb x y z n ns v ids tw rs (Z ++ Y) W' := by
  have hl := h.lv
  have hB := h.Bg
  refine ⟨h.tt.turn hb (fun b hm => ?_), h.gr.next hb, h.tr.next hb, List.mem_append_left _ h.zn, List.mem_append_left _ h.zm, List.mem_append_left _ h.zb, fun r hr b hm => List.mem_append_left _ (h.zp r hr b hm), fun b hm => ?_, h.vt, h.bn.next hb, h.bm.next hb, h.bb.next hb, fun j hj => (h.nq j hj).next hb⟩
  · rcases List.mem_append.1 hm with hm | hm
    · exact ⟨.inl (List.mem_append_left _ hm), Nat.lt_of_lt_of_le (hl.1 b hm).2 hb.size⟩
    · rcases List.mem_append.1 hm with hm | hm
      · exact ⟨.inl (List.mem_append_right _ (List.mem_append_left _ hm)), Nat.lt_of_lt_of_le (hl.2 b hm).2 hb.size⟩
      · rcases List.mem_append.1 hm with hm | hm
        · exact ⟨.inl (List.mem_append_right _ (List.mem_append_right _ hm)), Nat.lt_of_lt_of_le (h.zl b hm) hb.size⟩
        · exact ⟨.inr (hY b hm).1, (hY b hm).2⟩
  · rcases List.mem_append.1 hm with hm | hm
    · exact h.zd b hm
    · have := hY b hm
      exact ⟨by omega, fun h1 => by have := (hl.1 b h1).2; omega, fun h1 => by have := (hl.2 b h1).2; omega⟩
theorem Sm.next (h : Sm B w0 g gn gm gb x y z n ns v ids tw rs Z W) (hb : Below W.heap.size W W') : Sm B w0 g gn gm gb x y z n ns v ids tw rs Z W' := by
  have := h.turn (Y := []) hb (by simp)
  rwa [List.append_nil] at this
theorem Sm.made {n' : Nat} {ns' : List Nd} (h : Sm B w0 g gn gm gb x y z n ns v ids tw rs Z W) (ht : Tt (v.ownBlock.toList ++ (tw.ownBlock.toList ++ Z)) B w0 W' g n' so0 (fuN 10) dcl ns') (hs : Same (v.ownBlock.toList ++ (tw.ownBlock.toList ++ Z)) W W') : Sm B w0 g gn gm gb x y z n' ns' v ids tw rs Z W' :=
  ⟨ht, h.gr.same hs (fun b hb => List.mem_append_left _ hb), h.tr.same hs (fun b hb => List.mem_append_right _ (List.mem_append_left _ hb)), h.zn, h.zm, h.zb, h.zp, h.zd, h.vt, h.bn.same hs (by simp [h.zn]), h.bm.same hs (by simp [h.zm]), h.bb.same hs (by simp [h.zb]), fun j hj => (h.nq j hj).same hs (fun b hb => by simp [h.zp _ (List.getElem_mem hj) b hb])⟩
theorem Sm.con (i : Nat) (hi : i < 3) (h : Sm B w0 g gn gm gb x y z i (smB.take i) v ids tw rs Z W) :
    Calls Tryz.prog 28 #[.pointer (some ⟨g, 0, none⟩), .int .i64 12, .string (smNm i), .agg #[.bool false, .slice none 0 0, .slice none 0 0], .slice none 0 0] W fun e w' => e = .returned (.tuple #[.int .i64 (i : Int), .int .i64 0]) ∧ Sm B w0 g gn gm gb x y z (i + 1) (smB.take (i + 1)) v ids tw rs Z w' := by
  have h4 : i = 0 ∨ i = 1 ∨ i = 2 := by omega
  rcases h4 with rfl | rfl | rfl
  · have e1 : smB.take 1 = smB.take 0 ++ [⟨12, ⟨#[120]⟩, false, [], [], [], dcl[0].rs, 0⟩] := rfl
    have e2 : (smB.take 0).length = 0 := rfl
    have hk := mk_con h.tt (show 0 ≤ 100000 by decide) ⟨#[120]⟩ (by decide) 0 (by decide) rfl rfl (by decide) (by rw [e2]; decide) (all_new (by decide))
    rw [e2, ← e1] at hk
    exact hk.mono fun e w' ⟨he, h1, h2⟩ => ⟨he, h.made h1 h2⟩
  · have e1 : smB.take 2 = smB.take 1 ++ [⟨12, ⟨#[121]⟩, false, [], [], [], dcl[1].rs, 0⟩] := rfl
    have e2 : (smB.take 1).length = 1 := rfl
    have hk := mk_con h.tt (show 1 ≤ 100000 by decide) ⟨#[121]⟩ (by decide) 1 (by decide) rfl rfl (by decide) (by rw [e2]; decide) (all_new (by decide))
    rw [e2, ← e1] at hk
    exact hk.mono fun e w' ⟨he, h1, h2⟩ => ⟨he, h.made h1 h2⟩
  · have e1 : smB.take 3 = smB.take 2 ++ [⟨12, ⟨#[122]⟩, false, [], [], [], dcl[2].rs, 0⟩] := rfl
    have e2 : (smB.take 2).length = 2 := rfl
    have hk := mk_con h.tt (show 2 ≤ 100000 by decide) ⟨#[122]⟩ (by decide) 2 (by decide) rfl rfl (by decide) (by rw [e2]; decide) (all_new (by decide))
    rw [e2, ← e1] at hk
    exact hk.mono fun e w' ⟨he, h1, h2⟩ => ⟨he, h.made h1 h2⟩
theorem Sm.push (h : Sm B w0 g gn gm gb x y z n ns v ids tw rs Z W) {k : Nat} (hk : ids.length = k) (hl : k ≤ 1000) (a : Int) :
    ∃ A c W2, (∀ ty, (Builtin.append_ #[57, 57] ty #[v, .slice (some ⟨W.heap.size, 0, none⟩) 1 1]).run Tryz.prog (W.alloc (.cells #[.int .i64 a] 3)) = .ok (.slice A (k + 1) c) W2) ∧
      Sm B w0 g gn gm gb x y z n ns (.slice A (k + 1) c) (ids ++ [a]) tw rs Z W2 := by
  subst hk
  have h1 := h.next (bl_al (.refl _ _) (.cells #[.int .i64 a] 3))
  have hB := h1.Bg
  obtain ⟨A, c, W2, r1, r2, r3, r4, _⟩ := h1.gr.push rI_ok a (by omega) (by omega) (x := W.heap.size) (Bk.new _ _ W)
  have hl1 := h1.lv
  have L := h1.gr.lk r3
  have own : ∀ b ∈ (Value.slice A (ids.length + 1) c).ownBlock.toList, b ∈ v.ownBlock.toList ∨ b = (W.alloc (.cells #[.int .i64 a] 3)).heap.size := fun b hb => (r4 b (by simpa using hb)).imp (fun e => by rw [Option.mem_toList]; exact e) id
  refine ⟨A, c, W2, r1, ⟨h1.tt.offTurn r3 (fun b hb => ⟨List.mem_append_left _ hb, by have := (hl1.1 b hb).1; omega⟩) (fun b hm => ?_), r2, h1.tr.off r3 (fun b hb hm => h1.vt b hm (by rw [Option.mem_toList]; exact hb)), h.zn, h.zm, h.zb, h.zp, fun b hb => ⟨(h1.zd b hb).1, fun hm => ?_, (h1.zd b hb).2.2⟩, fun b hb hm => ?_, h1.bn.off r3 (h1.zd gn h.zn).2.1, h1.bm.off r3 (h1.zd gm h.zm).2.1, h1.bb.off r3 (h1.zd gb h.zb).2.1, fun j hj => ⟨(h1.nq j hj).q, (h1.nq j hj).ok, L _ _ (h1.nq j hj).at_.1, L _ _ (h1.nq j hj).at_.2⟩⟩⟩
  · rcases List.mem_append.1 hm with hm | hm
    · refine ⟨?_, (r2.base b (by simpa using hm)).2⟩
      exact (own b hm).imp (List.mem_append_left _) (fun e => Nat.le_of_eq e.symm)
    · exact ⟨.inl (List.mem_append_right _ hm), Nat.lt_of_lt_of_le (h1.tt.lt (List.mem_append_right _ hm)) r3.size⟩
  · rcases own b hm with e | e
    · exact (h1.zd b hb).2.1 e
    · have := h1.zl b hb; omega
  · rcases own b hb with e | e
    · exact h1.vt b e hm
    · have := (hl1.2 b hm).2; omega
def SmP (B : Nat) (w0 : World) (g gn gm gb : Nat) (x y z : Int) (n : Nat) (ns : List Nd) (v : Value) (ids : List Int) (tw : Value) (j : Nat) (r : Value) (W2 : World) : Prop := ∃ A' c' rs' Z', r = .slice A' (j + 1) c' ∧ rs'.length = j + 1 ∧ W2.frozen? ⟨gb, 0, none⟩ = false ∧ W2.cell? ⟨gb, 0, none⟩ = some tw ∧ Bk gn #[.string ⟨#[120]⟩, .string ⟨#[121]⟩, .string ⟨#[122]⟩] 9 W2 ∧ Bk gm #[.int .i64 x, .int .i64 y, .int .i64 z] 3 W2 ∧ Sm B w0 g gn gm gb x y z n ns v ids (.slice A' (j + 1) c') rs' Z' (W2.setCell ⟨gb, 0, none⟩ (.slice A' (j + 1) c'))
theorem Sm.row (h : Sm B w0 g gn gm gb x y z n ns v ids tw rs Z W) {j : Nat} (hjl : rs.length = j) (hj : j < 3) (b5 : Below W.heap.size W w5) {r : Pt} (fr : Fr W r.A ∧ Fr W r.B) (nr : Nq r (Rat.divInt (smX x y z j) 2) w5) :
    ∃ u w', (∀ t', (Builtin.append_ #[22, 22] t' #[tw, .slice (some ⟨w5.heap.size, 0, none⟩) 1 1]).run Tryz.prog (w5.alloc (.cells #[.string (smNm j), .slice none 0 0, .int .i64 1, .bool false, .bool r.s, .slice r.A r.xs.length r.a, .slice r.B r.ys.length r.b, .int .i64 0] 37)) = .ok u w') ∧ SmP B w0 g gn gm gb x y z n ns v ids tw j u w' := by
  subst hjl
  have b1 : Below w5.heap.size w5 (w5.alloc (.cells #[.string (smNm rs.length), .slice none 0 0, .int .i64 1, .bool false, .bool r.s, .slice r.A r.xs.length r.a, .slice r.B r.ys.length r.b, .int .i64 0] 37)) := bl_al (.refl _ _) _
  have hX := Bk.new #[.string (smNm rs.length), .slice none 0 0, .int .i64 1, .bool false, .bool r.s, .slice r.A r.xs.length r.a, .slice r.B r.ys.length r.b, .int .i64 0] 37 w5
  have n1 := nr.next b1
  have h1 := h.turn (Y := pb r) (bl_trans b5 b1) (fun b hb => ⟨pb_new fr b hb, n1.pb_lt b hb⟩)
  clear nr b1 h
  generalize w5.heap.size = xx at *
  generalize w5.alloc (.cells #[.string (smNm rs.length), .slice none 0 0, .int .i64 1, .bool false, .bool r.s, .slice r.A r.xs.length r.a, .slice r.B r.ys.length r.b, .int .i64 0] 37) = W1 at *
  have hB := h1.Bg
  have hl1 := h1.lv
  obtain ⟨A', c', W2, r1, r2, r3, r4, _⟩ := h1.tr.push rT_ok ⟨smNm rs.length, none, [], 0, nmV r⟩ (by rw [smTb_len rs (by omega)]; omega) (by omega) (x := xx) hX
  rw [smTb_len rs (by omega)] at r1 r2 r4
  rw [← smTb_push rs r hj] at r2
  have own : ∀ b ∈ (Value.slice A' (rs.length + 1) c').ownBlock.toList, b ∈ tw.ownBlock.toList ∨ b = W1.heap.size := fun b hb => (r4 b (by simpa using hb)).imp (fun e => by rw [Option.mem_toList]; exact e) id
  have zdg := h1.zd gb h1.zb
  have hgl := h1.zl gb h1.zb
  have bb2 := h1.bb.off r3 zdg.2.2
  have L := h1.tr.lk r3
  have O2 : Off [gb] W2 (W2.setCell ⟨gb, 0, none⟩ (.slice A' (rs.length + 1) c')) := (Off.refl _ _).setCell _ _ (.inl (by simp))
  have hnt : noU tw = true := by
    obtain ⟨A, c, e⟩ := h1.tr.form
    rw [e]; rfl
  have L2 : Lks W2 (W2.setCell ⟨gb, 0, none⟩ (.slice A' (rs.length + 1) c')) := Lks.of_bk bb2 (by intro v hv; simp at hv; subst hv; exact hnt) O2
  have gbo : ∀ b, (Value.slice A' (rs.length + 1) c').ownBlock = some b → b ∉ [gb] := fun b e hm => by
    simp at hm
    subst hm
    rcases own b (by rw [Option.mem_toList]; exact e) with e' | e'
    · exact zdg.2.2 e'
    · omega
  have gbv : ∀ b, v.ownBlock = some b → b ∉ [gb] := fun b e hm => by
    simp at hm
    subst hm
    exact zdg.2.1 (by rw [Option.mem_toList]; exact e)
  have rs1 : (rs ++ [r]).length = rs.length + 1 := by simp
  have t2 : Tt (v.ownBlock.toList ++ ((Value.slice A' (rs.length + 1) c').ownBlock.toList ++ (Z ++ pb r))) B w0 W2 g n so0 (fuN 10) dcl ns := h1.tt.offTurn r3 (fun b hb => ⟨List.mem_append_right _ (List.mem_append_left _ hb), by have := (hl1.2 b hb).1; omega⟩) (fun b hm => by
    rcases List.mem_append.1 hm with hm | hm
    · exact ⟨.inl (List.mem_append_left _ hm), Nat.lt_of_lt_of_le (hl1.1 b hm).2 r3.size⟩
    · rcases List.mem_append.1 hm with hm | hm
      · exact ⟨(own b hm).imp (fun e => List.mem_append_right _ (List.mem_append_left _ e)) (fun e => Nat.le_of_eq e.symm), (r2.base b (by simpa using hm)).2⟩
      · exact ⟨.inl (List.mem_append_right _ (List.mem_append_right _ hm)), Nat.lt_of_lt_of_le (h1.zl b hm) r3.size⟩)
  have bv2 := h1.gr.off r3 (fun b hb hm => h1.vt b (by rw [Option.mem_toList]; exact hb) hm)
  have hne : ∀ {k}, k ∈ (Z ++ pb r) → k ∉ tw.ownBlock.toList := fun hk => (h1.zd _ hk).2.2
  have hgn : gn ≠ gb := fun e => by
    have k1 : #[.string ⟨#[120]⟩, .string ⟨#[121]⟩, .string ⟨#[122]⟩] = #[tw] := by
      have := (h1.bn.symm.trans (by rw [e])).trans h1.bb
      injection this with this
      injection this
    have := congrArg Array.size k1
    simp at this
  have hgm : gm ≠ gb := fun e => by
    have k1 : #[.int .i64 x, .int .i64 y, .int .i64 z] = #[tw] := by
      have := (h1.bm.symm.trans (by rw [e])).trans h1.bb
      injection this with this
      injection this
    have := congrArg Array.size k1
    simp at this
  refine ⟨_, W2, r1, A', c', rs ++ [r], Z ++ pb r, rfl, rs1, bb2.free 0, bb2.cell rfl, h1.bn.off r3 (hne h1.zn), h1.bm.off r3 (hne h1.zm), ⟨t2.offTurn O2 (fun b hb => by
      simp at hb
      subst hb
      exact ⟨List.mem_append_right _ (List.mem_append_right _ h1.zb), zdg.1⟩) (fun b hm => ⟨.inl hm, by rw [setCell_size]; exact t2.lt hm⟩), bv2.off O2 gbv, r2.off O2 gbo, h1.zn, h1.zm, h1.zb, fun r' hr b hb => ?_, fun b hb => ⟨(h1.zd b hb).1, (h1.zd b hb).2.1, fun hm => ?_⟩, fun b hb hm => ?_, ((h1.bn.off r3 (hne h1.zn)).set_far _ _ hgn), ((h1.bm.off r3 (hne h1.zm)).set_far _ _ hgm), bb2.set _ rfl, fun j hj' => ?_⟩⟩
  · rcases List.mem_append.1 hr with hr | hr
    · exact h1.zp r' hr b hb
    · rw [List.mem_singleton] at hr
      subst hr
      exact List.mem_append_right _ hb
  · rcases own b hm with e | e
    · exact (h1.zd b hb).2.2 e
    · have := h1.zl b hb; omega
  · rcases own b hm with e | e
    · exact h1.vt b hb e
    · have := (hl1.1 b hb).2; omega
  · have nq : Nq (rs ++ [r])[j] (Rat.divInt (smX x y z j) 2) W1 := by
      by_cases hjl : j < rs.length
      · rw [List.getElem_append_left hjl]
        exact h1.nq j hjl
      · have : j = rs.length := by omega
        subst this
        rw [List.getElem_append_right (Nat.le_refl _)]
        simpa using n1
    exact ⟨nq.q, nq.ok, L2 _ _ (L _ _ nq.at_.1), L2 _ _ (L _ _ nq.at_.2)⟩
end
theorem nm_cell {gn : Nat} {W : World} (K : Bk gn #[.string ⟨#[120]⟩, .string ⟨#[121]⟩, .string ⟨#[122]⟩] 9 W) (i : Nat) (hi : i < 3) : W.cell? ⟨gn, i, none⟩ = some (.string (smNm i)) := by
  have h4 : i = 0 ∨ i = 1 ∨ i = 2 := by omega
  rcases h4 with rfl | rfl | rfl <;> exact K.cell rfl
theorem xyz_cell {gm : Nat} {x y z : Int} {W : World} (K : Bk gm #[.int .i64 x, .int .i64 y, .int .i64 z] 3 W) (i : Nat) (hi : i < 3) : W.cell? ⟨gm, i, none⟩ = some (.int .i64 (smX x y z i)) := by
  have h4 : i = 0 ∨ i = 1 ∨ i = 2 := by omega
  rcases h4 with rfl | rfl | rfl <;> exact K.cell rfl
theorem rx_bk {X : List Nat} {B0 g : Nat} {l : List Int} {W : World} (hB : Bk g (zs l).toArray 3 W) (hX : g ∈ X) : Rx X B0 W (some ⟨g, 0, none⟩) (zs l) := by
  refine .inr ⟨_, _, rfl, .inl hX, hB.lt, fun j v hj => ?_⟩
  rw [Nat.zero_add]
  refine hB.cell ?_
  rw [← Array.getElem?_toList]
  exact hj
section
variable {B : Nat} {w0 : World} {g gn gm gb n : Nat} {ns : List Nd} {x y z : Int} {v tw : Value} {ids : List Int} {rs : List Pt} {Z Y : List Nat} {W W' W1 w1 w5 : World}
theorem Sm.start (hT : Tt [] B w0 w1 g 0 so0 (fuN 10) dcl []) : Sm B w0 g w1.heap.size (w1.heap.size + 1) (w1.heap.size + 2) x y z 0 [] (.slice none 0 0) [] (.slice none 0 0) [] [w1.heap.size, w1.heap.size + 1, w1.heap.size + 2] (((w1.alloc (.cells #[.string ⟨#[120]⟩, .string ⟨#[121]⟩, .string ⟨#[122]⟩] 9)).alloc (.cells #[.int .i64 x, .int .i64 y, .int .i64 z] 3)).alloc (.cells #[.slice none 0 0] 24)) := by
  have hb : Below w1.heap.size w1 (((w1.alloc (.cells #[.string ⟨#[120]⟩, .string ⟨#[121]⟩, .string ⟨#[122]⟩] 9)).alloc (.cells #[.int .i64 x, .int .i64 y, .int .i64 z] 3)).alloc (.cells #[.slice none 0 0] 24)) := bl_al (bl_al (bl_al (.refl _ _) _) _) _
  have hB := hT.base
  refine ⟨hT.turn hb (fun b hm => ?_), Gr.nil _ _ _, Gr.nil _ _ _, by simp, by simp, by simp, by simp, fun b hm => ⟨?_, by simp [Value.ownBlock], by simp [Value.ownBlock]⟩, by simp [Value.ownBlock], ((Bk.new _ _ w1).al _).al _, (Bk.new1 _ _ w1 _).al _, ?_, by simp⟩
  · simp [Value.ownBlock] at hm
    rcases hm with rfl | rfl | rfl
    · exact ⟨.inr (by omega), by simp <;> omega⟩
    · exact ⟨.inr (by omega), by simp <;> omega⟩
    · exact ⟨.inr (by omega), by simp⟩
  · simp at hm
    omega
  · have := Bk.new1 #[.slice none 0 0] 24 (w1.alloc (.cells #[.string ⟨#[120]⟩, .string ⟨#[121]⟩, .string ⟨#[122]⟩] 9)) (.cells #[.int .i64 x, .int .i64 y, .int .i64 z] 3)
    simpa using this
theorem Sm.two (h : Sm B w0 g gn gm gb x y z 3 (smB.take 3) v ids tw rs Z W) {r : Pt} (hr : Nq r (Rat.divInt (-2) 3) W) :
    Calls Tryz.prog 28 #[.pointer (some ⟨g, 0, none⟩), .int .i64 11, .string ⟨#[]⟩, .agg #[.bool r.s, .slice r.A r.xs.length r.a, .slice r.B r.ys.length r.b], .slice none 0 0] W fun e w' => e = .returned (.tuple #[.int .i64 3, .int .i64 0]) ∧ Sm B w0 g gn gm gb x y z 4 (smB ++ [smT]) v ids tw rs Z w' :=
  (mk_numq h.tt (by decide) (by decide) hr true [2] [3] (by decide +kernel) (by kernel_rfl) (by kernel_rfl) (by decide) (all_new (by decide))).mono fun e w' ⟨he, h1, h2⟩ => ⟨he, h.made h1 h2⟩
structure Sx (B : Nat) (w0 : World) (g gn gm gb : Nat) (x y z : Int) (tw : Value) (rs : List Pt) (i : Nat) (sv : Value) (W : World) : Prop where
  ex : ∃ v Z A c, sv = .slice A (smA i).length c ∧ (smA i).length ≤ c ∧ c ≤ maxLen ∧ Sm B w0 g gn gm gb x y z 4 (smB ++ [smT]) v [0, 1, 2] tw rs Z W ∧ Rx (v.ownBlock.toList ++ (tw.ownBlock.toList ++ Z)) B W A (zs (smA i))
theorem Sm.pick {A0 : Option Addr} {c0 : Nat} (h : Sm B w0 g gn gm gb x y z 4 (smB ++ [smT]) (.slice A0 3 c0) [0, 1, 2] tw rs Z W) (hb : Below W.heap.size W W') {g1 g2 g3 : Nat} (k1 : Bk g1 #[.int .i64 3, .int .i64 0] 3 W') (k2 : Bk g2 #[.int .i64 0, .int .i64 3, .int .i64 3] 3 W') (k3 : Bk g3 #[.int .i64 0] 3 W') (hg : W.heap.size ≤ g1 ∧ W.heap.size ≤ g2 ∧ W.heap.size ≤ g3) (i : Nat) (hi : i < 8) (sv : Value)
    (hs : sv = ([.slice A0 3 c0, .slice A0 3 c0, .slice (some ⟨g1, 0, none⟩) 2 2, .slice (some ⟨g2, 0, none⟩) 3 3, .slice (some ⟨g3, 0, none⟩) 1 1, .slice A0 3 c0, .slice A0 3 c0, .slice A0 3 c0] : List Value)[i]'(show i < 8 from hi)) : Sx B w0 g gn gm gb x y z tw rs i sv W' := by
  have h1 := h.turn (Y := [g1, g2, g3]) hb (fun b hm => by
    simp at hm
    rcases hm with rfl | rfl | rfl
    · exact ⟨hg.1, k1.lt⟩
    · exact ⟨hg.2.1, k2.lt⟩
    · exact ⟨hg.2.2, k3.lt⟩)
  obtain ⟨A, c, e, hr, hle, hc⟩ := h1.gr.rl rI_ok (Z := []) (by simp)
  injection e with e1 e2 e3
  subst e1 e3
  have ids : Rx ((Value.slice A0 3 c0).ownBlock.toList ++ (tw.ownBlock.toList ++ (Z ++ [g1, g2, g3]))) B W' A0 (zs [0, 1, 2]) := by
    rcases h1.gr with ⟨e, _⟩ | ⟨gi, m, e, hx⟩
    · cases e
    · injection e with e1 e2 e3
      subst e1
      refine .inr ⟨gi, 0, rfl, .inl (by simp [Value.ownBlock]), hx.lt, fun j u hj => ?_⟩
      have hj3 : j < 3 := (List.getElem?_eq_some_iff.1 hj).1
      obtain ⟨g', o', e4, _, hcc⟩ := hr.get (i := j) (by simpa using hj3)
      injection e4 with e4
      injection e4 with e5 e6
      subst e5 e6
      have h3 : j = 0 ∨ j = 1 ∨ j = 2 := by omega
      rcases h3 with rfl | rfl | rfl <;> (obtain rfl := Option.some.inj hj; exact hcc 0 _ rfl)
  have i8 : i = 0 ∨ i = 1 ∨ i = 2 ∨ i = 3 ∨ i = 4 ∨ i = 5 ∨ i = 6 ∨ i = 7 := by omega
  rcases i8 with rfl | rfl | rfl | rfl | rfl | rfl | rfl | rfl
  · exact ⟨_, _, A0, c0, hs, hle, hc, h1, ids⟩
  · exact ⟨_, _, A0, c0, hs, hle, hc, h1, ids⟩
  · exact ⟨_, _, _, 2, hs, by decide, by decide, h1, rx_bk (l := [3, 0]) k1 (by simp)⟩
  · exact ⟨_, _, _, 3, hs, by decide, by decide, h1, rx_bk (l := [0, 3, 3]) k2 (by simp)⟩
  · exact ⟨_, _, _, 1, hs, by decide, by decide, h1, rx_bk (l := [0]) k3 (by simp)⟩
  · exact ⟨_, _, A0, c0, hs, hle, hc, h1, ids⟩
  · exact ⟨_, _, A0, c0, hs, hle, hc, h1, ids⟩
  · exact ⟨_, _, A0, c0, hs, hle, hc, h1, ids⟩
theorem Sx.op {sv : Value} (i : Nat) (hi : i < 8) (h : Sx B w0 g gn gm gb x y z tw rs i sv W) (hb : Below W.heap.size W W') :
    Calls Tryz.prog 28 #[.pointer (some ⟨g, 0, none⟩), .int .i64 (smOp i), .string ⟨#[]⟩, .agg #[.bool false, .slice none 0 0, .slice none 0 0], sv] W' fun e w' => e = .returned (.tuple #[.int .i64 4, .int .i64 0]) ∧ ∃ v Z, Sm B w0 g gn gm gb x y z 5 (smN i) v [0, 1, 2] tw rs Z w' := by
  obtain ⟨v, Z, A, c, rfl, hle, hc, h1, hR⟩ := h.ex
  replace h1 := h1.next hb
  replace hR := hR.next hb
  have i8 : i = 0 ∨ i = 1 ∨ i = 2 ∨ i = 3 ∨ i = 4 ∨ i = 5 ∨ i = 6 ∨ i = 7 := by omega
  rcases i8 with rfl | rfl | rfl | rfl | rfl | rfl | rfl | rfl
  · exact (mk_op_new h1.tt (by decide) 13 (by decide) (by decide) (by decide) (by decide) A [0, 1, 2] c hR (by decide) hle hc (by decide) (by decide) (by decide) (by decide) (by decide) (by decide) (all_new (by decide))).mono fun e w' ⟨he, k1, k2⟩ => ⟨he, _, _, h1.made k1 k2⟩
  · exact (mk_op_new h1.tt (by decide) 14 (by decide) (by decide) (by decide) (by decide) A [0, 1, 2] c hR (by decide) hle hc (by decide) (by decide) (by decide) (by decide) (by decide) (by decide) (all_new (by decide))).mono fun e w' ⟨he, k1, k2⟩ => ⟨he, _, _, h1.made k1 k2⟩
  · exact (mk_op_new h1.tt (by decide) 15 (by decide) (by decide) (by decide) (by decide) A [3, 0] c hR (by decide) hle hc (by decide) (by decide) (by decide) (by decide) (by decide) (by decide) (all_new (by decide))).mono fun e w' ⟨he, k1, k2⟩ => ⟨he, _, _, h1.made k1 k2⟩
  · exact (mk_op_new h1.tt (by decide) 16 (by decide) (by decide) (by decide) (by decide) A [0, 3, 3] c hR (by decide) hle hc (by decide) (by decide) (by decide) (by decide) (by decide) (by decide) (all_new (by decide))).mono fun e w' ⟨he, k1, k2⟩ => ⟨he, _, _, h1.made k1 k2⟩
  · exact (mk_op_new h1.tt (by decide) 14 (by decide) (by decide) (by decide) (by decide) A [0] c hR (by decide) hle hc (by decide) (by decide) (by decide) (by decide) (by decide) (by decide) (all_new (by decide))).mono fun e w' ⟨he, k1, k2⟩ => ⟨he, _, _, h1.made k1 k2⟩
  · exact (mk_op_new h1.tt (by decide) 18 (by decide) (by decide) (by decide) (by decide) A [0, 1, 2] c hR (by decide) hle hc (by decide) (by decide) (by decide) (by decide) (by decide) (by decide) (all_new (by decide))).mono fun e w' ⟨he, k1, k2⟩ => ⟨he, _, _, h1.made k1 k2⟩
  · exact (mk_op_new h1.tt (by decide) 19 (by decide) (by decide) (by decide) (by decide) A [0, 1, 2] c hR (by decide) hle hc (by decide) (by decide) (by decide) (by decide) (by decide) (by decide) (all_new (by decide))).mono fun e w' ⟨he, k1, k2⟩ => ⟨he, _, _, h1.made k1 k2⟩
  · exact (mk_op_new h1.tt (by decide) 9 (by decide) (by decide) (by decide) (by decide) A [0, 1, 2] c hR (by decide) hle hc (by decide) (by decide) (by decide) (by decide) (by decide) (by decide) (all_new (by decide))).mono fun e w' ⟨he, k1, k2⟩ => ⟨he, _, _, h1.made k1 k2⟩
theorem Sm.ts {At : Option Addr} {ct : Nat} (h : Sm B w0 g gn gm gb x y z n ns v ids (.slice At 3 ct) rs Z W) (hl : rs.length = 3) : Ts [] W At (smTb rs) ∧ 3 ≤ ct ∧ ct ≤ maxLen := by
  obtain ⟨A, c, e, hr, hle, hc⟩ := h.tr.rl rT_ok (Z := []) (by simp)
  rw [smTb_len rs (by omega), hl] at e hle
  injection e with e1 e2 e3
  subst e1 e3
  refine ⟨⟨hr, fun t ht => ?_⟩, hle, hc⟩
  match rs, hl, h, ht with
  | [a, b, d], _, h, ht =>
    simp only [smTb, List.zipWith, List.mem_cons, List.not_mem_nil, or_false] at ht
    rcases ht with rfl | rfl | rfl
    · exact ⟨⟨.inl rfl, by simp⟩, (h.nq 0 (by simp)).at_⟩
    · exact ⟨⟨.inl rfl, by simp⟩, (h.nq 1 (by simp)).at_⟩
    · exact ⟨⟨.inl rfl, by simp⟩, (h.nq 2 (by simp)).at_⟩
theorem Sm.few (h : Sm B w0 g gn gm gb x y z n ns v ids tw rs Z W) (hl : rs.length = 3) : ∀ t ∈ smTb rs, t.Few ∧ t.nm.size ≤ maxLen := by
  intro t ht
  match rs, hl, h, ht with
  | [a, b, d], _, h, ht =>
    simp only [smTb, List.zipWith, List.mem_cons, List.not_mem_nil, or_false] at ht
    rcases ht with rfl | rfl | rfl
    · exact ⟨⟨by simp, (h.nq 0 (by simp)).few, by simp⟩, (show (1 : Nat) ≤ maxLen by decide)⟩
    · exact ⟨⟨by simp, (h.nq 1 (by simp)).few, by simp⟩, (show (1 : Nat) ≤ maxLen by decide)⟩
    · exact ⟨⟨by simp, (h.nq 2 (by simp)).few, by simp⟩, (show (1 : Nat) ≤ maxLen by decide)⟩
theorem Sm.ev {At : Option Addr} {ct : Nat} (i : Nat) (hi : i < 8) (h : Sm B w0 g gn gm gb x y z 5 (smN i) v ids (.slice At 3 ct) rs Z W) (hl : rs.length = 3) (bx : x.natAbs ≤ 1000) (by_ : y.natAbs ≤ 1000) (bz : z.natAbs ≤ 1000) :
    Calls Tryz.prog 30 #[.pointer (some ⟨g, 0, none⟩), .agg #[.slice At 3 ct], .int .i64 4] W fun e w' => ∃ u : Vl, e = .returned (.tuple #[.agg #[.int .i64 u.so, .bool u.bo, .bool u.p.s, .slice u.p.A u.p.xs.length u.p.a, .slice u.p.B u.p.ys.length u.p.b, .int .i64 u.el], .int .i64 0]) ∧ Vx u (smR i x y z) w' ∧ Below W.heap.size W w' := by
  have hT := h.ts hl
  have e3 : (smTb rs).length = 3 := by rw [smTb_len rs (by omega), hl]
  have he := eval_any (h.tt.less (Y := []) (by simp)) (by decide) At ct hT.1 (fun t ht => (h.few hl t ht).1) (by rw [e3]; decide) (fun t ht => (h.few hl t ht).2) (sm_ev i hi bx by_ bz rs hl (fun j hj => (h.nq j hj).cn)) 4 (smR i x y z) rfl (by decide)
  rw [e3] at he
  exact he.mono fun e w' ⟨u, k', e1, ⟨e2, e4⟩, e5, e6, e7⟩ => by
    subst e4
    exact ⟨u, e1, ⟨e2, e5, e6⟩, e7⟩
end
theorem add_i (t : TypeId) {x y : Int} (h : (x + y).natAbs ≤ 1000000) : binOp .add t (.int .i64 x) (.int .i64 y) = pure (.int .i64 (x + y)) := by
  have e : IntKind.i64.wrap (x + y) = x + y := IntWalk.i64_in _ ⟨by omega, by omega⟩
  show pure (Value.int .i64 (IntKind.i64.wrap (x + y))) = _
  rw [e]
theorem sub_i (t : TypeId) {x y : Int} (h : (x - y).natAbs ≤ 1000000) : binOp .sub t (.int .i64 x) (.int .i64 y) = pure (.int .i64 (x - y)) := by
  have e : IntKind.i64.wrap (x - y) = x - y := IntWalk.i64_in _ ⟨by omega, by omega⟩
  show pure (Value.int .i64 (IntKind.i64.wrap (x - y))) = _
  rw [e]
theorem mul_i (t : TypeId) {x y : Int} (h : (x * y).natAbs ≤ 1000000) : binOp .mul t (.int .i64 x) (.int .i64 y) = pure (.int .i64 (x * y)) := by
  have e : IntKind.i64.wrap (x * y) = x * y := IntWalk.i64_in _ ⟨by omega, by omega⟩
  show pure (Value.int .i64 (IntKind.i64.wrap (x * y))) = _
  rw [e]
theorem neg_i {x : Int} (h : x.natAbs ≤ 1000000) : Op.unary .neg (.int .i64 x) = pure (.int .i64 (-x)) := by
  have e : IntKind.i64.wrap (0 - x) = -x := by rw [IntWalk.i64_in _ ⟨by omega, by omega⟩]; omega
  show (pure (Value.int .i64 (IntKind.i64.wrap (0 - x))) : Sem Value) = _
  rw [e]
theorem sums_law (x y z op : Int) (w : World) : Calls Tryz.prog 6 #[.int .i64 x, .int .i64 y, .int .i64 z, .int .i64 op] w fun e w' => e = .returned (.bool true) ∧ Below w.heap.size w w' := by
  have haw := fun W (hb : Below w.heap.size w W) => (awake10_any W).mono fun e w' (h : e = .returned (.bool true) ∧ Below W.heap.size W w') => (show e = .returned (.bool true) ∧ Below w.heap.size w w' from ⟨h.1, bl_trans hb h.2⟩)
  replace haw := hide haw
  have hd : (decide (x < -1000) = true) ∨ (decide (x < -1000) = false ∧ decide (1000 < x) = true) ∨ (decide (x < -1000) = false ∧ decide (1000 < x) = false ∧ decide (y < -1000) = true) ∨ (decide (x < -1000) = false ∧ decide (1000 < x) = false ∧ decide (y < -1000) = false ∧ decide (1000 < y) = true) ∨ (decide (x < -1000) = false ∧ decide (1000 < x) = false ∧ decide (y < -1000) = false ∧ decide (1000 < y) = false ∧ decide (z < -1000) = true) ∨ (decide (x < -1000) = false ∧ decide (1000 < x) = false ∧ decide (y < -1000) = false ∧ decide (1000 < y) = false ∧ decide (z < -1000) = false ∧ decide (1000 < z) = true) ∨ (decide (x < -1000) = false ∧ decide (1000 < x) = false ∧ decide (y < -1000) = false ∧ decide (1000 < y) = false ∧ decide (z < -1000) = false ∧ decide (1000 < z) = false) := by
    simp only [decide_eq_true_eq, decide_eq_false_iff_not]
    omega
  rcases hd with g1 | ⟨g1, g2⟩ | ⟨g1, g2, g3⟩ | ⟨g1, g2, g3, g4⟩ | ⟨g1, g2, g3, g4, g5⟩ | ⟨g1, g2, g3, g4, g5, g6⟩ | ⟨g1, g2, g3, g4, g5, g6⟩
  iterate 6
    go_enter Tryz.func6, Tryz.ntmps6
    go_wp2_with (go_at_call 9; (with_reducible refine (haw.out _ (Below.refl _ _)).mono ?_); rintro e w1 ⟨rfl, hb⟩; replace hb := hide hb)
    go_ret
    exact ⟨rfl, hb.out⟩
  have kk : ¬ (x < -1000) ∧ ¬ (1000 < x) ∧ ¬ (y < -1000) ∧ ¬ (1000 < y) ∧ ¬ (z < -1000) ∧ ¬ (1000 < z) := ⟨of_decide_eq_false g1, of_decide_eq_false g2, of_decide_eq_false g3, of_decide_eq_false g4, of_decide_eq_false g5, of_decide_eq_false g6⟩
  have bx : x.natAbs ≤ 1000 := by omega
  have by_ : y.natAbs ≤ 1000 := by omega
  have bz : z.natAbs ≤ 1000 := by omega
  obtain ⟨i8, hi8⟩ : ∃ i : Nat, op % ((8 : Nat) : Int) = (i : Int) := ⟨(op % ((8 : Nat) : Int)).toNat, by omega⟩
  have i8l : i8 < 8 := by omega
  have RK : Hid (∀ W, Calls Tryz.prog 31 #[.int .i64 op, .int .i64 8] W fun e w' => e = .returned (.int .i64 (i8 : Int)) ∧ W = w') := hide fun W => by
    have := round_any op 8 (by decide) (by decide) W
    rw [hi8] at this
    exact this
  have NI := hide (fun (j : Nat) W => num_f (smX x y z j) 2 W (by
    have : j = 0 ∨ j = 1 ∨ j = 2 ∨ 3 ≤ j := by omega
    rcases this with rfl | rfl | rfl | h
    · show x.natAbs < _; omega
    · show y.natAbs < _; omega
    · show z.natAbs < _; omega
    · unfold smX; rw [List.getD_eq_getElem?_getD, List.getElem?_eq_none (by simp; omega)]; decide) (by decide) (by decide))
  have O2 := hide (fun W => rof_e (-2) 3 (Rat.divInt (-2) 3) W (by decide) (by decide) (by decide) (by decide) (by decide) (qmk_divInt (-2) 3 (by decide)) (sm_fit (-2) 3 (by decide) (by decide) (by decide)))
  clear hi8
  replace bx := hide bx; replace by_ := hide by_; replace bz := hide bz; replace i8l := hide i8l
  have ht := hide (tables_t w)
  obtain ⟨B, hB⟩ : ∃ B, B = w.heap.size := ⟨_, rfl⟩
  rw [← hB] at ht
  replace hB := hide hB
  go_enter Tryz.func6, Tryz.ntmps6
  go_wp2_with (go_at_call 27; (with_reducible refine ht.out.mono ?_); rintro e w1 ⟨g, q0, rfl, T1⟩; replace T1 := hide T1)
  have I0 := hide (Sm.start (x := x) (y := y) (z := z) T1.out)
  generalize ((w1.alloc (.cells #[.string ⟨#[120]⟩, .string ⟨#[121]⟩, .string ⟨#[122]⟩] 9)).alloc (.cells #[.int .i64 x, .int .i64 y, .int .i64 z] 3)).alloc (.cells #[.slice none 0 0] 24) = W0 at *
  generalize w1.heap.size + 2 = gb at *
  generalize w1.heap.size + 1 = gm at *
  generalize w1.heap.size = gn at *
  clear T1 ht
  go_loopw [11, 15] (fun v ii wr => ∃ (i : Nat) (A : Option Addr) (c : Nat) (A2 : Option Addr) (c2 : Nat) (rs : List Pt) (Z : List Nat), i ≤ 3 ∧ ii = .int .i64 (i : Int) ∧ v = .slice A i c ∧ rs.length = i ∧ Sm B w g gn gm gb x y z i (smB.take i) (.slice A i c) ((List.range i).map fun k : Nat => (k : Int)) (.slice A2 i c2) rs Z wr) (fun _ ii _ => 3 - (intOf ii).toNat)
  case atStart => exact ⟨0, none, 0, none, 0, [], _, by decide, rfl, rfl, rfl, I0.out⟩
  case round =>
    clear I0
    obtain ⟨i, A, c, A2, c2, rs, Z, hi, rfl, rfl, hl, I⟩ := hrel
    by_cases hlt : i < 3
    · have y0 := nm_cell I.bn i hlt
      have M := hide (Sm.con i hlt I)
      replace hl := hide hl
      replace I := hide I
      go_wp2_with (first
        | (at_builtin; refine wpList_append_run _ rfl _ _ _ rfl _ _ _ _ rfl rfl r1 ?_)
        | (go_at_call 28; (with_reducible refine M.out.mono ?_); rintro e w2 ⟨rfl, I2⟩; obtain ⟨A', c', w3, r1, I3⟩ := I2.push (k := i) (by simp) (by omega) (i : Int); replace I3 := hide I3; clear I2 M I y0))
      have I4 := hide (I3.out.next (bel_dr w3))
      clear r1 I3
      have YS := hide (fun W (b : Below w3.drew.heap.size w3.drew W) => (show (W.cell? ⟨gb, 0, none⟩ = some (.slice A2 i c2) ∧ W.cell? ⟨gn, i, none⟩ = some (.string (smNm i)) ∧ W.cell? ⟨gm, i, none⟩ = some (.int .i64 (smX x y z i))) from ⟨(I4.out.next b).bb.cell rfl, nm_cell (I4.out.next b).bn i hlt, xyz_cell (I4.out.next b).bm i hlt⟩))
      refine wp_region_T (fun W => (W.cell? ⟨gb, 0, none⟩ = some (.slice A2 i c2) ∧ W.cell? ⟨gn, i, none⟩ = some (.string (smNm i)) ∧ W.cell? ⟨gm, i, none⟩ = some (.int .i64 (smX x y z i)))) 15 (by kernel_rfl) (YS.out _ (.refl _ _)) (fun hHeld => ?_)
      generalize w3.drew = w4 at *
      refine tkT 0 (h := ?_)
      refine tkT 1 (h := ?_)
      refine tkT 2 (h := ?_)
      refine tkT 3 (h := ?_)
      refine tkT 4 (h := ?_)
      refine tkT 5 (h := ?_)
      refine tkT 6 (h := ?_)
      refine tkT 7 (h := ?_)
      refine tkT 8 (h := ?_)
      refine tkT 9 (h := ?_)
      refine rdT 10 (h := fun K hK => ?_)
      go_simp
      go_at_call 29; (with_reducible refine (NI.out i _).mono ?_); rintro e w5 ⟨r, rfl, nr, fr, b5⟩
      have P := hide (I4.out.row hl.out hlt b5 fr nr)
      clear nr fr I4
      replace b5 := hide b5
      (try go_wp2_with fail)
      refine kT hK (by first | exact YS.out _ b5.out | exact YS.out _ (bl_al b5.out _) | exact q7) (h := fun hHeld => ?_)
      (try clear hK K)
      refine tkT 11 (h := ?_)
      refine rdT 12 (h := fun K hK => ?_)
      go_simp
      refine kT hK (by first | exact YS.out _ b5.out | exact YS.out _ (bl_al b5.out _) | exact q7) (h := fun hHeld => ?_)
      (try clear hK K)
      refine rdT 13 (h := fun K hK => ?_)
      rw [if_pos (by rfl)]
      refine wp_append_ex (.tmp 81) (.tmp 92) 22 rfl (.slice A2 i c2) (.slice (some ⟨_, 0, none⟩) 1 1) rfl rfl _ P.out ?_
      rintro u W2 ⟨A4, c4, rs', Z', rfl, q1, q2, q3, q4, q5, q6⟩
      have q7 := show (W2.cell? ⟨gb, 0, none⟩ = some (.slice A2 i c2) ∧ W2.cell? ⟨gn, i, none⟩ = some (.string (smNm i)) ∧ W2.cell? ⟨gm, i, none⟩ = some (.int .i64 (smX x y z i))) from ⟨q3, nm_cell q4 i hlt, xyz_cell q5 i hlt⟩
      replace q6 := hide q6
      clear P q4 q5
      refine kT hK (by first | exact YS.out _ b5.out | exact YS.out _ (bl_al b5.out _) | exact q7) (h := fun hHeld => ?_)
      (try clear hK K)
      refine tkT 14 (h := ?_)
      refine wpAnyT_ready (rs := [15]) (by kernel_rfl) (by simp) ?_
      refine (AllReadyT.last (by (simp only [List.getElem?_toArray, List.getElem?_cons_zero, List.getElem?_cons_succ]) <;> rfl) (by kernel_rfl) (fun K hK => ?_) AllReadyT.nil)
      go_simp
      refine hK.out _ _ ?_
      (try clear hK K)
      (try simp only [Act.put, List.setIfInBounds_toArray, List.set_cons_zero, List.set_cons_succ])
      refine wpAnyT_done (by kernel_rfl) ?_ _
      (try clear hHeld)
      generalize W2.setCell ⟨gb, 0, none⟩ (.slice A4 (i + 1) c4) = W3 at *
      go_wp2
      go_roundw
      case rel =>
        refine ⟨i + 1, A', c', A4, c4, rs', Z', hlt, by go_num, rfl, q1, ?_⟩
        have := q6.out
        rw [show (List.range (i + 1)).map (fun k : Nat => (k : Int)) = (List.range i).map (fun k : Nat => (k : Int)) ++ [(i : Int)] by rw [List.range_succ, List.map_append]; rfl]
        exact this
      case measure => simp only [intOf]; omega
    · have hi3 : i = 3 := by omega
      subst hi3
      have I1 := hide I
      clear I hlt hi
      go_wp2_with (first
        | (go_at_call 32; (with_reducible refine (O2.out _).mono ?_); rintro e w2 ⟨r, rfl, nr, b2⟩; have M := hide ((I1.out.next b2).two nr); clear nr b2 I1)
        | (go_at_call 28; (with_reducible refine M.out.mono ?_); rintro e w3 ⟨rfl, I3⟩; have I4 := hide (I3.next (bel_dr w3)); clear I3 M)
        | (go_at_call 31; (with_reducible refine (RK.out _).mono ?_); rintro e w4 ⟨rfl, rfl⟩))
      obtain ⟨gi, rfl, gl, gB, gc⟩ := I4.out.gr.ids (by simp)
      have SS := hide (fun W (b : Below w3.drew.heap.size w3.drew W) => (show W.cell? ⟨gi, 0, none⟩ = some (.int .i64 0) from by have := cell_next b (gc 0 (by simp)); simpa using this))
      clear gl gB gc RK
      have i8m := i8l.out
      have i8n : (i8 : Int) < 8 := by omega
      go_cut [21] (fun s21 wx => Sx B w g gn gm gb x y z (.slice A2 3 c2) rs i8 s21 wx)
      case first =>
        refine wp_region_held_drew (S := fun W => W.cell? ⟨gi, 0, none⟩ = some (.int .i64 0)) (by kernel_rfl) ?_ (fun hHeld => ?_)
        · (try dsimp only)
          with_reducible exact SS.out _ (.refl _ _)
        generalize w3.drew = wd at *
        refine tkH 0 (h := ?_)
        refine tkH 1 (h := ?_)
        refine tkH 2 (h := ?_)
        refine tkH 3 (h := ?_)
        refine tkH 4 (h := ?_)
        refine tkH 5 (h := ?_)
        refine tkH 7 (h := ?_)
        refine tkH 8 (h := ?_)
        refine tkH 9 (h := ?_)
        refine tkH 10 (h := ?_)
        refine tkH 11 (h := ?_)
        refine tkH 13 (h := ?_)
        refine tkH 14 (h := ?_)
        refine tkH 15 (h := ?_)
        refine tkH 17 (h := ?_)
        refine tkH 18 (h := ?_)
        refine tkH 19 (h := ?_)
        refine tkH 21 (h := ?_)
        refine rd3H 6 12 16 (h0 := fun K hK => ?_) (h1 := fun K hK => ?_) (h2 := fun K hK => ?_)
        · go_simp
          refine kH hK (by (try dsimp only); with_reducible exact SS.out _ (bl_al (.refl _ _) _)) (h := fun hHeld => ?_)
          (try clear hK K)
          refine rd2H 12 16 (h0 := fun K hK => ?_) (h1 := fun K hK => ?_)
          · go_simp
            refine kH hK (by (try dsimp only); with_reducible exact SS.out _ (bl_al (bl_al (.refl _ _) _) _)) (h := fun hHeld => ?_)
            (try clear hK K)
            refine rdH 16 (h := fun K hK => ?_)
            go_simp
            refine kH hK (by (try dsimp only); with_reducible exact SS.out _ (bl_al (bl_al (bl_al (.refl _ _) _) _) _)) (h := fun hHeld => ?_)
            (try clear hK K)
            refine rdH 20 (h := fun K hK => ?_)
            go_simp
            refine kH hK (by (try dsimp only); with_reducible exact SS.out _ (bl_al (bl_al (bl_al (bl_al (.refl _ _) _) _) _) _)) (h := fun hHeld => ?_)
            (try clear hK K)
            refine tkH 22 (h := ?_)
            refine rdH 23 (h := fun K hK => ?_)
            go_simp
            refine kH hK (by (try dsimp only); with_reducible exact SS.out _ (bl_al (bl_al (bl_al (bl_al (.refl _ _) _) _) _) _)) (h := fun hHeld => ?_)
            (try clear hK K)
            refine tkH 24 (h := ?_)
            refine wpAnyH_done (by kernel_rfl) ?_ _
            go_wp2_with fail
            go_meet
            exact I4.out.pick ((bl_al (bl_al (bl_al (bl_al (.refl _ _) _) _) _) _) : Below wd.heap.size wd _) ((((Bk.new _ _ wd).al _).al _).al _) (((Bk.new1 _ _ wd _).al _).al _) ((show Bk (wd.heap.size + 1 + 1) _ _ _ by simpa using (Bk.new #[.int .i64 0] 3 ((wd.alloc (.cells #[.int .i64 3, .int .i64 0] 3)).alloc (.cells #[.int .i64 0, .int .i64 3, .int .i64 3] 3)))).al _) (by omega) i8 i8l.out _ rfl
          · go_simp
            refine kH hK (by (try dsimp only); with_reducible exact SS.out _ (bl_al (bl_al (.refl _ _) _) _)) (h := fun hHeld => ?_)
            (try clear hK K)
            refine rdH 12 (h := fun K hK => ?_)
            go_simp
            refine kH hK (by (try dsimp only); with_reducible exact SS.out _ (bl_al (bl_al (bl_al (.refl _ _) _) _) _)) (h := fun hHeld => ?_)
            (try clear hK K)
            refine rdH 20 (h := fun K hK => ?_)
            go_simp
            refine kH hK (by (try dsimp only); with_reducible exact SS.out _ (bl_al (bl_al (bl_al (bl_al (.refl _ _) _) _) _) _)) (h := fun hHeld => ?_)
            (try clear hK K)
            refine tkH 22 (h := ?_)
            refine rdH 23 (h := fun K hK => ?_)
            go_simp
            refine kH hK (by (try dsimp only); with_reducible exact SS.out _ (bl_al (bl_al (bl_al (bl_al (.refl _ _) _) _) _) _)) (h := fun hHeld => ?_)
            (try clear hK K)
            refine tkH 24 (h := ?_)
            refine wpAnyH_done (by kernel_rfl) ?_ _
            go_wp2_with fail
            go_meet
            exact I4.out.pick ((bl_al (bl_al (bl_al (bl_al (.refl _ _) _) _) _) _) : Below wd.heap.size wd _) ((((Bk.new _ _ wd).al _).al _).al _) ((show Bk (wd.heap.size + 1 + 1) _ _ _ by simpa using (Bk.new #[.int .i64 0, .int .i64 3, .int .i64 3] 3 ((wd.alloc (.cells #[.int .i64 3, .int .i64 0] 3)).alloc (.cells #[.int .i64 0] 3)))).al _) (((Bk.new1 _ _ wd _).al _).al _) (by omega) i8 i8l.out _ rfl
        · go_simp
          refine kH hK (by (try dsimp only); with_reducible exact SS.out _ (bl_al (.refl _ _) _)) (h := fun hHeld => ?_)
          (try clear hK K)
          refine rd2H 6 16 (h0 := fun K hK => ?_) (h1 := fun K hK => ?_)
          · go_simp
            refine kH hK (by (try dsimp only); with_reducible exact SS.out _ (bl_al (bl_al (.refl _ _) _) _)) (h := fun hHeld => ?_)
            (try clear hK K)
            refine rdH 16 (h := fun K hK => ?_)
            go_simp
            refine kH hK (by (try dsimp only); with_reducible exact SS.out _ (bl_al (bl_al (bl_al (.refl _ _) _) _) _)) (h := fun hHeld => ?_)
            (try clear hK K)
            refine rdH 20 (h := fun K hK => ?_)
            go_simp
            refine kH hK (by (try dsimp only); with_reducible exact SS.out _ (bl_al (bl_al (bl_al (bl_al (.refl _ _) _) _) _) _)) (h := fun hHeld => ?_)
            (try clear hK K)
            refine tkH 22 (h := ?_)
            refine rdH 23 (h := fun K hK => ?_)
            go_simp
            refine kH hK (by (try dsimp only); with_reducible exact SS.out _ (bl_al (bl_al (bl_al (bl_al (.refl _ _) _) _) _) _)) (h := fun hHeld => ?_)
            (try clear hK K)
            refine tkH 24 (h := ?_)
            refine wpAnyH_done (by kernel_rfl) ?_ _
            go_wp2_with fail
            go_meet
            exact I4.out.pick ((bl_al (bl_al (bl_al (bl_al (.refl _ _) _) _) _) _) : Below wd.heap.size wd _) (((Bk.new1 _ _ wd _).al _).al _) ((((Bk.new _ _ wd).al _).al _).al _) ((show Bk (wd.heap.size + 1 + 1) _ _ _ by simpa using (Bk.new #[.int .i64 0] 3 ((wd.alloc (.cells #[.int .i64 0, .int .i64 3, .int .i64 3] 3)).alloc (.cells #[.int .i64 3, .int .i64 0] 3)))).al _) (by omega) i8 i8l.out _ rfl
          · go_simp
            refine kH hK (by (try dsimp only); with_reducible exact SS.out _ (bl_al (bl_al (.refl _ _) _) _)) (h := fun hHeld => ?_)
            (try clear hK K)
            refine rdH 6 (h := fun K hK => ?_)
            go_simp
            refine kH hK (by (try dsimp only); with_reducible exact SS.out _ (bl_al (bl_al (bl_al (.refl _ _) _) _) _)) (h := fun hHeld => ?_)
            (try clear hK K)
            refine rdH 20 (h := fun K hK => ?_)
            go_simp
            refine kH hK (by (try dsimp only); with_reducible exact SS.out _ (bl_al (bl_al (bl_al (bl_al (.refl _ _) _) _) _) _)) (h := fun hHeld => ?_)
            (try clear hK K)
            refine tkH 22 (h := ?_)
            refine rdH 23 (h := fun K hK => ?_)
            go_simp
            refine kH hK (by (try dsimp only); with_reducible exact SS.out _ (bl_al (bl_al (bl_al (bl_al (.refl _ _) _) _) _) _)) (h := fun hHeld => ?_)
            (try clear hK K)
            refine tkH 24 (h := ?_)
            refine wpAnyH_done (by kernel_rfl) ?_ _
            go_wp2_with fail
            go_meet
            exact I4.out.pick ((bl_al (bl_al (bl_al (bl_al (.refl _ _) _) _) _) _) : Below wd.heap.size wd _) ((show Bk (wd.heap.size + 1 + 1) _ _ _ by simpa using (Bk.new #[.int .i64 3, .int .i64 0] 3 ((wd.alloc (.cells #[.int .i64 0, .int .i64 3, .int .i64 3] 3)).alloc (.cells #[.int .i64 0] 3)))).al _) ((((Bk.new _ _ wd).al _).al _).al _) (((Bk.new1 _ _ wd _).al _).al _) (by omega) i8 i8l.out _ rfl
        · go_simp
          refine kH hK (by (try dsimp only); with_reducible exact SS.out _ (bl_al (.refl _ _) _)) (h := fun hHeld => ?_)
          (try clear hK K)
          refine rd2H 6 12 (h0 := fun K hK => ?_) (h1 := fun K hK => ?_)
          · go_simp
            refine kH hK (by (try dsimp only); with_reducible exact SS.out _ (bl_al (bl_al (.refl _ _) _) _)) (h := fun hHeld => ?_)
            (try clear hK K)
            refine rdH 12 (h := fun K hK => ?_)
            go_simp
            refine kH hK (by (try dsimp only); with_reducible exact SS.out _ (bl_al (bl_al (bl_al (.refl _ _) _) _) _)) (h := fun hHeld => ?_)
            (try clear hK K)
            refine rdH 20 (h := fun K hK => ?_)
            go_simp
            refine kH hK (by (try dsimp only); with_reducible exact SS.out _ (bl_al (bl_al (bl_al (bl_al (.refl _ _) _) _) _) _)) (h := fun hHeld => ?_)
            (try clear hK K)
            refine tkH 22 (h := ?_)
            refine rdH 23 (h := fun K hK => ?_)
            go_simp
            refine kH hK (by (try dsimp only); with_reducible exact SS.out _ (bl_al (bl_al (bl_al (bl_al (.refl _ _) _) _) _) _)) (h := fun hHeld => ?_)
            (try clear hK K)
            refine tkH 24 (h := ?_)
            refine wpAnyH_done (by kernel_rfl) ?_ _
            go_wp2_with fail
            go_meet
            exact I4.out.pick ((bl_al (bl_al (bl_al (bl_al (.refl _ _) _) _) _) _) : Below wd.heap.size wd _) (((Bk.new1 _ _ wd _).al _).al _) ((show Bk (wd.heap.size + 1 + 1) _ _ _ by simpa using (Bk.new #[.int .i64 0, .int .i64 3, .int .i64 3] 3 ((wd.alloc (.cells #[.int .i64 0] 3)).alloc (.cells #[.int .i64 3, .int .i64 0] 3)))).al _) ((((Bk.new _ _ wd).al _).al _).al _) (by omega) i8 i8l.out _ rfl
          · go_simp
            refine kH hK (by (try dsimp only); with_reducible exact SS.out _ (bl_al (bl_al (.refl _ _) _) _)) (h := fun hHeld => ?_)
            (try clear hK K)
            refine rdH 6 (h := fun K hK => ?_)
            go_simp
            refine kH hK (by (try dsimp only); with_reducible exact SS.out _ (bl_al (bl_al (bl_al (.refl _ _) _) _) _)) (h := fun hHeld => ?_)
            (try clear hK K)
            refine rdH 20 (h := fun K hK => ?_)
            go_simp
            refine kH hK (by (try dsimp only); with_reducible exact SS.out _ (bl_al (bl_al (bl_al (bl_al (.refl _ _) _) _) _) _)) (h := fun hHeld => ?_)
            (try clear hK K)
            refine tkH 22 (h := ?_)
            refine rdH 23 (h := fun K hK => ?_)
            go_simp
            refine kH hK (by (try dsimp only); with_reducible exact SS.out _ (bl_al (bl_al (bl_al (bl_al (.refl _ _) _) _) _) _)) (h := fun hHeld => ?_)
            (try clear hK K)
            refine tkH 24 (h := ?_)
            refine wpAnyH_done (by kernel_rfl) ?_ _
            go_wp2_with fail
            go_meet
            exact I4.out.pick ((bl_al (bl_al (bl_al (bl_al (.refl _ _) _) _) _) _) : Below wd.heap.size wd _) ((show Bk (wd.heap.size + 1 + 1) _ _ _ by simpa using (Bk.new #[.int .i64 3, .int .i64 0] 3 ((wd.alloc (.cells #[.int .i64 0] 3)).alloc (.cells #[.int .i64 0, .int .i64 3, .int .i64 3] 3)))).al _) (((Bk.new1 _ _ wd _).al _).al _) ((((Bk.new _ _ wd).al _).al _).al _) (by omega) i8 i8l.out _ rfl
      case rest =>
        have y10 : (wc.alloc (.cells #[.int .i64 13, .int .i64 14, .int .i64 15, .int .i64 16, .int .i64 14, .int .i64 18, .int .i64 19, .int .i64 9] 3)).cell? ⟨wc.heap.size, i8, none⟩ = some (.int .i64 (smOp i8)) := (Bk.new #[.int .i64 13, .int .i64 14, .int .i64 15, .int .i64 16, .int .i64 14, .int .i64 18, .int .i64 19, .int .i64 9] 3 wc).cell (by
          have := i8l.out
          have i9 : i8 = 0 ∨ i8 = 1 ∨ i8 = 2 ∨ i8 = 3 ∨ i8 = 4 ∨ i8 = 5 ∨ i8 = 6 ∨ i8 = 7 := by omega
          rcases i9 with rfl | rfl | rfl | rfl | rfl | rfl | rfl | rfl <;> rfl)
        have MK := hide (Sx.op i8 i8l.out hcut (bl_al (.refl _ _) (.cells #[.int .i64 13, .int .i64 14, .int .i64 15, .int .i64 16, .int .i64 14, .int .i64 18, .int .i64 19, .int .i64 9] 3)))
        generalize smOp i8 = o at *
        clear hcut I4 SS i8m
        go_upto_region 27 with (first
          | (go_at_call 28; (with_reducible refine MK.out.mono ?_); rintro e w5 ⟨rfl, v5, Z5, I5⟩; have EV5 := hide (I5.ev i8 i8l.out hl bx.out by_.out bz.out); have m0 := I5.bb.cell (j := 0) rfl; have L5 : Hid (Below w.heap.size w w5) := hide (by have hL := I5.tt.below; rwa [hB.out] at hL); clear I5 MK y10)
          | (go_at_call 30; (with_reducible refine EV5.out.mono ?_); rintro e w6 ⟨u, rfl, V6, hb6⟩; clear EV5))
        have BU := hide (Bk.new #[.int .i64 u.so, .bool u.bo, .bool u.p.s, .slice u.p.A u.p.xs.length u.p.a, .slice u.p.B u.p.ys.length u.p.b, .int .i64 u.el] 30 w6)
        have g7 : Below w6.heap.size w6 (w6.alloc (.cells #[.int .i64 u.so, .bool u.bo, .bool u.p.s, .slice u.p.A u.p.xs.length u.p.a, .slice u.p.B u.p.ys.length u.p.b, .int .i64 u.el] 30)) := bl_al (.refl _ _) _
        have V := hide (V6.next g7)
        have L8 := hide (bl_trans (bl_trans L5.out hb6) g7)
        clear V6 L5 hb6 g7 m0
        generalize w6.alloc (.cells #[.int .i64 u.so, .bool u.bo, .bool u.p.s, .slice u.p.A u.p.xs.length u.p.a, .slice u.p.B u.p.ys.length u.p.b, .int .i64 u.el] 30) = w8 at *
        generalize w6.heap.size = gu at *
        have CS := hide same_e
        have AW := hide awake10_any
        have SS := hide (fun W (b : Below w8.heap.size w8 W) => (show (W.cell? ⟨gu, 0, none⟩ = some (.int .i64 u.so) ∧ W.cell? ⟨gu, 1, none⟩ = some (.bool u.bo) ∧ W.cell? ⟨gu, 2, none⟩ = some (.bool u.p.s) ∧ W.cell? ⟨gu, 3, none⟩ = some (.slice u.p.A u.p.xs.length u.p.a) ∧ W.cell? ⟨gu, 4, none⟩ = some (.slice u.p.B u.p.ys.length u.p.b) ∧ W.cell? ⟨gu, 5, none⟩ = some (.int .i64 u.el)) from C6.of (BU.out.next b)))
        have bb := bel_dr w8
        have i9 : i8 = 0 ∨ i8 = 1 ∨ i8 = 2 ∨ i8 = 3 ∨ i8 = 4 ∨ i8 = 5 ∨ i8 = 6 ∨ i8 = 7 := by have := i8l.out; omega
        clear i8l BU hB
        have hx := bx.out
        have hy := by_.out
        have hz := bz.out
        rcases i9 with rfl | rfl | rfl | rfl | rfl | rfl | rfl | rfl
        iterate 2
          as_aux_lemma =>
            first
              | (have V9 : Hid (Vx u (cq (Rat.divInt (x + y + z) 2)) w8) := V); (have NE := hide (fun W => num_d (x + y + z) 2 W (by omega) (by decide) (by decide))); (have q0 : binOp .add 3 (.int .i64 (x)) (.int .i64 y) = pure (.int .i64 (x + y)) := add_i _ (by omega)); (have q1 : binOp .add 3 (.int .i64 (x + y)) (.int .i64 z) = pure (.int .i64 (x + y + z)) := add_i _ (by omega))
              | (have V9 : Hid (Vx u (cq (Rat.divInt (x - y - z) 2)) w8) := V); (have NE := hide (fun W => num_d (x - y - z) 2 W (by omega) (by decide) (by decide))); (have q0 : binOp .sub 3 (.int .i64 (x)) (.int .i64 y) = pure (.int .i64 (x - y)) := sub_i _ (by omega)); (have q1 : binOp .sub 3 (.int .i64 (x - y)) (.int .i64 z) = pure (.int .i64 (x - y - z)) := sub_i _ (by omega))
            clear V hx hy hz bx by_ bz
            go_wp2
            refine wp_region_held_drew (S := fun W => (W.cell? ⟨gu, 0, none⟩ = some (.int .i64 u.so) ∧ W.cell? ⟨gu, 1, none⟩ = some (.bool u.bo) ∧ W.cell? ⟨gu, 2, none⟩ = some (.bool u.p.s) ∧ W.cell? ⟨gu, 3, none⟩ = some (.slice u.p.A u.p.xs.length u.p.a) ∧ W.cell? ⟨gu, 4, none⟩ = some (.slice u.p.B u.p.ys.length u.p.b) ∧ W.cell? ⟨gu, 5, none⟩ = some (.int .i64 u.el))) (by kernel_rfl) ?_ (fun hHeld => ?_)
            · (try dsimp only)
              with_reducible exact SS.out _ bb
            refine tkH 0 (h := ?_)
            refine tkH 1 (h := ?_)
            refine tkH 2 (h := ?_)
            refine tkH 3 (h := ?_)
            refine tkH 4 (h := ?_)
            refine tkH 5 (h := ?_)
            refine rdH 6 (h := fun K hK => ?_)
            go_simp
            (go_at_call 29; (with_reducible refine (NE.out _).mono ?_); rintro e wz ⟨r, rfl, nr, hb⟩; replace bb := bl_trans bb hb; have SM := hide (CS.out u r _ _ wz (V9.out.next bb) nr rfl); clear hb nr)
            (try go_wp2_with fail)
            refine kH hK (by (try dsimp only); with_reducible exact SS.out _ bb) (h := fun hHeld => ?_)
            (try clear hK K)
            refine rdH 7 (h := fun K hK => ?_)
            go_simp
            (go_at_call 14; (with_reducible refine (SM.out).mono ?_); rintro e wz ⟨rfl, hb⟩; replace bb := bl_trans bb hb; clear hb SM)
            (try go_wp2_with fail)
            refine kH hK (by (try dsimp only); with_reducible exact SS.out _ bb) (h := fun hHeld => ?_)
            (try clear hK K)
            refine tkH 8 (h := ?_)
            refine rdH 9 (h := fun K hK => ?_)
            go_simp
            (go_at_call 9; (with_reducible refine (AW.out _).mono ?_); rintro e wz ⟨rfl, hb⟩; replace bb := bl_trans bb hb; clear hb AW)
            (try go_wp2_with fail)
            refine kH hK (by (try dsimp only); with_reducible exact SS.out _ bb) (h := fun hHeld => ?_)
            (try clear hK K)
            refine tkH 10 (h := ?_)
            refine tkH 11 (h := ?_)
            refine wpAnyH_done (by kernel_rfl) ?_ _
            go_wp2_with fail
            go_ret
            exact ⟨rfl, bl_trans L8.out bb⟩
        iterate 3
          as_aux_lemma =>
            first
              | (have V9 : Hid (Vx u (cq (Rat.divInt (-x) 3)) w8) := V); (have NE := hide (fun W => num_d (-x) 3 W (by omega) (by decide) (by decide))); (have q0 : Op.unary .neg (.int .i64 x) = pure (.int .i64 (-x)) := neg_i (by omega))
              | (have V9 : Hid (Vx u (cq (Rat.divInt (9 * x) 8)) w8) := V); (have NE := hide (fun W => num_d (9 * x) 8 W (by omega) (by decide) (by decide))); (have q0 : binOp .mul 3 (.int .i64 9) (.int .i64 x) = pure (.int .i64 (9 * x)) := mul_i _ (by omega))
              | (have V9 : Hid (Vx u (cq (Rat.divInt (-x) 2)) w8) := V); (have NE := hide (fun W => num_d (-x) 2 W (by omega) (by decide) (by decide))); (have q0 : Op.unary .neg (.int .i64 x) = pure (.int .i64 (-x)) := neg_i (by omega))
            clear V hx hy hz bx by_ bz
            go_wp2
            refine wp_region_held_drew (S := fun W => (W.cell? ⟨gu, 0, none⟩ = some (.int .i64 u.so) ∧ W.cell? ⟨gu, 1, none⟩ = some (.bool u.bo) ∧ W.cell? ⟨gu, 2, none⟩ = some (.bool u.p.s) ∧ W.cell? ⟨gu, 3, none⟩ = some (.slice u.p.A u.p.xs.length u.p.a) ∧ W.cell? ⟨gu, 4, none⟩ = some (.slice u.p.B u.p.ys.length u.p.b) ∧ W.cell? ⟨gu, 5, none⟩ = some (.int .i64 u.el))) (by kernel_rfl) ?_ (fun hHeld => ?_)
            · (try dsimp only)
              with_reducible exact SS.out _ bb
            refine tkH 0 (h := ?_)
            refine tkH 1 (h := ?_)
            refine tkH 2 (h := ?_)
            refine rdH 3 (h := fun K hK => ?_)
            go_simp
            (go_at_call 29; (with_reducible refine (NE.out _).mono ?_); rintro e wz ⟨r, rfl, nr, hb⟩; replace bb := bl_trans bb hb; have SM := hide (CS.out u r _ _ wz (V9.out.next bb) nr rfl); clear hb nr)
            (try go_wp2_with fail)
            refine kH hK (by (try dsimp only); with_reducible exact SS.out _ bb) (h := fun hHeld => ?_)
            (try clear hK K)
            refine rdH 4 (h := fun K hK => ?_)
            go_simp
            (go_at_call 14; (with_reducible refine (SM.out).mono ?_); rintro e wz ⟨rfl, hb⟩; replace bb := bl_trans bb hb; clear hb SM)
            (try go_wp2_with fail)
            refine kH hK (by (try dsimp only); with_reducible exact SS.out _ bb) (h := fun hHeld => ?_)
            (try clear hK K)
            refine tkH 5 (h := ?_)
            refine rdH 6 (h := fun K hK => ?_)
            go_simp
            (go_at_call 9; (with_reducible refine (AW.out _).mono ?_); rintro e wz ⟨rfl, hb⟩; replace bb := bl_trans bb hb; clear hb AW)
            (try go_wp2_with fail)
            refine kH hK (by (try dsimp only); with_reducible exact SS.out _ bb) (h := fun hHeld => ?_)
            (try clear hK K)
            refine tkH 7 (h := ?_)
            refine tkH 8 (h := ?_)
            refine wpAnyH_done (by kernel_rfl) ?_ _
            go_wp2_with fail
            go_ret
            exact ⟨rfl, bl_trans L8.out bb⟩
        all_goals
          as_aux_lemma =>
            obtain ⟨b, hb0⟩ : ∃ b, u.bo = b := ⟨_, rfl⟩
            have hbo := hb0
            have hso : u.so = 0 := congrArg (fun x => x.1) V.out.cn
            rw [hso, hb0] at SS
            first
              | (have V9 : Hid (Vx u (tv (decide (x < y) && decide (y < z))) w8) := V); (have hw : IntKind.i64.wrap 0 = 0 := rfl); (replace hbo : u.bo = (decide (x < y) && decide (y < z)) := congrArg (fun x => x.2.1) V9.out.cn); clear V9
              | (have V9 : Hid (Vx u (tv (decide (y ≤ x) && decide (z ≤ y))) w8) := V); (have hw : IntKind.i64.wrap 1 = 1 := rfl); (replace hbo : u.bo = (decide (y ≤ x) && decide (z ≤ y)) := congrArg (fun x => x.2.1) V9.out.cn); clear V9
              | (have V9 : Hid (Vx u (tv (decide (x ≠ y ∧ y ≠ z ∧ x ≠ z))) w8) := V); (have hw : IntKind.i64.wrap 2 = 2 := rfl); (rw [show decide (x ≠ y ∧ y ≠ z ∧ x ≠ z) = ((x != y) && (y != z) && (x != z)) by rw [Bool.eq_iff_iff]; simp [and_assoc]] at V9); (replace hbo : u.bo = ((x != y) && (y != z) && (x != z)) := congrArg (fun x => x.2.1) V9.out.cn); clear V9
            rw [hb0] at hbo
            clear V hso hb0 CS
            go_wp2
            have q1 : binOp .lss 3 (.int .i64 x) (.int .i64 y) = pure (.bool (decide (x < y))) := rfl
            have q2 : binOp .lss 3 (.int .i64 y) (.int .i64 z) = pure (.bool (decide (y < z))) := rfl
            have q3 : binOp .geq 3 (.int .i64 x) (.int .i64 y) = pure (.bool (decide (y ≤ x))) := rfl
            have q4 : binOp .geq 3 (.int .i64 y) (.int .i64 z) = pure (.bool (decide (z ≤ y))) := rfl
            have q5 : binOp .neq 3 (.int .i64 x) (.int .i64 y) = pure (.bool (x != y)) := rfl
            have q6 : binOp .neq 3 (.int .i64 y) (.int .i64 z) = pure (.bool (y != z)) := rfl
            have q7 : binOp .neq 3 (.int .i64 x) (.int .i64 z) = pure (.bool (x != z)) := rfl
            clear hx hy hz bx by_ bz
            generalize decide (x < y) = c1 at *
            generalize decide (y < z) = c2 at *
            generalize decide (y ≤ x) = c3 at *
            generalize decide (z ≤ y) = c4 at *
            generalize (x != y) = c5 at *
            generalize (y != z) = c6 at *
            generalize (x != z) = c7 at *
            have e9 : ∀ (b : Bool) (W : World), (binOp .eql 4 (.bool b) (.bool b)).run Tryz.prog W = .ok (.bool true) W := fun b W => by cases b <;> kernel_rfl
            have hbo' := hide hbo
            clear hbo
            refine wp_region_held_drew (S := fun W => (W.cell? ⟨gu, 0, none⟩ = some (.int .i64 0) ∧ W.cell? ⟨gu, 1, none⟩ = some (.bool b) ∧ W.cell? ⟨gu, 2, none⟩ = some (.bool u.p.s) ∧ W.cell? ⟨gu, 3, none⟩ = some (.slice u.p.A u.p.xs.length u.p.a) ∧ W.cell? ⟨gu, 4, none⟩ = some (.slice u.p.B u.p.ys.length u.p.b) ∧ W.cell? ⟨gu, 5, none⟩ = some (.int .i64 u.el))) (by kernel_rfl) ?_ (fun hHeld => ?_)
            · (try dsimp only)
              with_reducible exact SS.out _ bb
            generalize w8.drew = wd at *
            refine tkH 0 (h := ?_)
            refine tkH 1 (h := ?_)
            refine tkH 2 (h := ?_)
            refine tkH 3 (h := ?_)
            refine tkH 4 (h := ?_)
            refine tkH 5 (h := ?_)
            refine tkH 6 (h := ?_)
            refine tkH 7 (h := ?_)
            refine tkH 8 (h := ?_)
            refine tkH 9 (h := ?_)
            obtain ⟨v10, e10⟩ : ∃ v, Hid (v = if (c1) = true then .int .i64 y else undef) := ⟨_, hide rfl⟩
            refine tkH 10 (v := v10) (hy := ?_) (h := ?_)
            · cases (c1)
              · obtain rfl := e10.out; exact Or.inr ⟨by rfl, by rfl⟩
              · obtain rfl := e10.out; exact Or.inl ⟨by rfl, by (intro w hSw; (try dsimp only at hSw); go_simp) <;> (with_reducible rfl)⟩
            obtain ⟨v11, e11⟩ : ∃ v, Hid (v = if (c1) = true then .int .i64 z else undef) := ⟨_, hide rfl⟩
            refine tkH 11 (v := v11) (hy := ?_) (h := ?_)
            · cases (c1)
              · obtain rfl := e11.out; exact Or.inr ⟨by rfl, by rfl⟩
              · obtain rfl := e11.out; exact Or.inl ⟨by rfl, by (intro w hSw; (try dsimp only at hSw); go_simp) <;> (with_reducible rfl)⟩
            obtain ⟨v12, e12⟩ : ∃ v, Hid (v = if (c1) = true then .bool c2 else undef) := ⟨_, hide rfl⟩
            refine tkH 12 (v := v12) (hy := ?_) (h := ?_)
            · cases (c1)
              · obtain rfl := e12.out; exact Or.inr ⟨by rfl, by rfl⟩
              · obtain rfl := e12.out; obtain rfl := e10.out; obtain rfl := e11.out; exact Or.inl ⟨by rfl, by (intro w hSw; (try dsimp only at hSw); go_simp) <;> (with_reducible rfl)⟩
            refine tkH 13 (v := .bool (c1 && c2)) (hy := ?_) (h := ?_)
            · cases c1 <;> (obtain rfl := e12.out; exact Or.inl ⟨by rfl, by (intro w hSw; (try dsimp only at hSw); go_simp) <;> (with_reducible rfl)⟩)
            refine tkH 14 (h := ?_)
            refine tkH 15 (h := ?_)
            refine tkH 16 (h := ?_)
            refine tkH 17 (h := ?_)
            obtain ⟨v18, e18⟩ : ∃ v, Hid (v = if (c3) = true then .int .i64 y else undef) := ⟨_, hide rfl⟩
            refine tkH 18 (v := v18) (hy := ?_) (h := ?_)
            · cases (c3)
              · obtain rfl := e18.out; exact Or.inr ⟨by rfl, by rfl⟩
              · obtain rfl := e18.out; exact Or.inl ⟨by rfl, by (intro w hSw; (try dsimp only at hSw); go_simp) <;> (with_reducible rfl)⟩
            obtain ⟨v19, e19⟩ : ∃ v, Hid (v = if (c3) = true then .int .i64 z else undef) := ⟨_, hide rfl⟩
            refine tkH 19 (v := v19) (hy := ?_) (h := ?_)
            · cases (c3)
              · obtain rfl := e19.out; exact Or.inr ⟨by rfl, by rfl⟩
              · obtain rfl := e19.out; exact Or.inl ⟨by rfl, by (intro w hSw; (try dsimp only at hSw); go_simp) <;> (with_reducible rfl)⟩
            obtain ⟨v20, e20⟩ : ∃ v, Hid (v = if (c3) = true then .bool c4 else undef) := ⟨_, hide rfl⟩
            refine tkH 20 (v := v20) (hy := ?_) (h := ?_)
            · cases (c3)
              · obtain rfl := e20.out; exact Or.inr ⟨by rfl, by rfl⟩
              · obtain rfl := e20.out; obtain rfl := e18.out; obtain rfl := e19.out; exact Or.inl ⟨by rfl, by (intro w hSw; (try dsimp only at hSw); go_simp) <;> (with_reducible rfl)⟩
            refine tkH 21 (v := .bool (c3 && c4)) (hy := ?_) (h := ?_)
            · cases c3 <;> (obtain rfl := e20.out; exact Or.inl ⟨by rfl, by (intro w hSw; (try dsimp only at hSw); go_simp) <;> (with_reducible rfl)⟩)
            refine tkH 22 (h := ?_)
            refine tkH 23 (h := ?_)
            refine tkH 24 (h := ?_)
            refine tkH 25 (h := ?_)
            obtain ⟨v26, e26⟩ : ∃ v, Hid (v = if (c5) = true then .int .i64 y else undef) := ⟨_, hide rfl⟩
            refine tkH 26 (v := v26) (hy := ?_) (h := ?_)
            · cases (c5)
              · obtain rfl := e26.out; exact Or.inr ⟨by rfl, by rfl⟩
              · obtain rfl := e26.out; exact Or.inl ⟨by rfl, by (intro w hSw; (try dsimp only at hSw); go_simp) <;> (with_reducible rfl)⟩
            obtain ⟨v27, e27⟩ : ∃ v, Hid (v = if (c5) = true then .int .i64 z else undef) := ⟨_, hide rfl⟩
            refine tkH 27 (v := v27) (hy := ?_) (h := ?_)
            · cases (c5)
              · obtain rfl := e27.out; exact Or.inr ⟨by rfl, by rfl⟩
              · obtain rfl := e27.out; exact Or.inl ⟨by rfl, by (intro w hSw; (try dsimp only at hSw); go_simp) <;> (with_reducible rfl)⟩
            obtain ⟨v28, e28⟩ : ∃ v, Hid (v = if (c5) = true then .bool c6 else undef) := ⟨_, hide rfl⟩
            refine tkH 28 (v := v28) (hy := ?_) (h := ?_)
            · cases (c5)
              · obtain rfl := e28.out; exact Or.inr ⟨by rfl, by rfl⟩
              · obtain rfl := e28.out; obtain rfl := e26.out; obtain rfl := e27.out; exact Or.inl ⟨by rfl, by (intro w hSw; (try dsimp only at hSw); go_simp) <;> (with_reducible rfl)⟩
            refine tkH 29 (v := .bool (c5 && c6)) (hy := ?_) (h := ?_)
            · cases c5 <;> (obtain rfl := e28.out; exact Or.inl ⟨by rfl, by (intro w hSw; (try dsimp only at hSw); go_simp) <;> (with_reducible rfl)⟩)
            refine tkH 30 (h := ?_)
            generalize (c5 && c6) = c56 at *
            obtain ⟨v31, e31⟩ : ∃ v, Hid (v = if (c56) = true then .int .i64 x else undef) := ⟨_, hide rfl⟩
            refine tkH 31 (v := v31) (hy := ?_) (h := ?_)
            · cases (c56)
              · obtain rfl := e31.out; exact Or.inr ⟨by rfl, by rfl⟩
              · obtain rfl := e31.out; exact Or.inl ⟨by rfl, by (intro w hSw; (try dsimp only at hSw); go_simp) <;> (with_reducible rfl)⟩
            obtain ⟨v32, e32⟩ : ∃ v, Hid (v = if (c56) = true then .int .i64 z else undef) := ⟨_, hide rfl⟩
            refine tkH 32 (v := v32) (hy := ?_) (h := ?_)
            · cases (c56)
              · obtain rfl := e32.out; exact Or.inr ⟨by rfl, by rfl⟩
              · obtain rfl := e32.out; exact Or.inl ⟨by rfl, by (intro w hSw; (try dsimp only at hSw); go_simp) <;> (with_reducible rfl)⟩
            obtain ⟨v33, e33⟩ : ∃ v, Hid (v = if (c56) = true then .bool c7 else undef) := ⟨_, hide rfl⟩
            refine tkH 33 (v := v33) (hy := ?_) (h := ?_)
            · cases (c56)
              · obtain rfl := e33.out; exact Or.inr ⟨by rfl, by rfl⟩
              · obtain rfl := e33.out; obtain rfl := e31.out; obtain rfl := e32.out; exact Or.inl ⟨by rfl, by (intro w hSw; (try dsimp only at hSw); go_simp) <;> (with_reducible rfl)⟩
            refine tkH 34 (v := .bool (c56 && c7)) (hy := ?_) (h := ?_)
            · cases c56 <;> (obtain rfl := e33.out; exact Or.inl ⟨by rfl, by (intro w hSw; (try dsimp only at hSw); go_simp) <;> (with_reducible rfl)⟩)
            refine tkH 36 (h := ?_)
            refine tkH 37 (h := ?_)
            refine rdH 35 (h := fun K hK => ?_)
            go_simp
            refine kH hK (by (try dsimp only); with_reducible exact SS.out _ (bl_al bb _)) (h := fun hHeld => ?_)
            (try clear hK K)
            refine tkH 38 (h := ?_)
            refine rdH 39 (h := fun K hK => ?_)
            go_simp
            refine kH hK (by (try dsimp only); with_reducible exact SS.out _ (bl_al bb _)) (h := fun hHeld => ?_)
            (try clear hK K)
            have hbo := hbo'.out
            clear hbo'
            refine tkH 40 (h := ?_)
            refine tkH 41 (h := ?_)
            refine tkH 42 (h := ?_)
            refine rdH 43 (h := fun K hK => ?_)
            go_simp
            (go_at_call 9; (with_reducible refine (AW.out _).mono ?_); rintro e wz ⟨rfl, hb⟩; replace bb := bl_trans (bl_al bb _) hb; clear hb AW)
            (try go_wp2_with fail)
            refine kH hK (by (try dsimp only); with_reducible exact SS.out _ bb) (h := fun hHeld => ?_)
            (try clear hK K)
            refine tkH 44 (h := ?_)
            refine tkH 45 (h := ?_)
            refine wpAnyH_done (by kernel_rfl) ?_ _
            go_wp2_with fail
            go_ret
            exact ⟨rfl, bl_trans L8.out bb⟩
end
section
open Go.ChangeShapes Go.WideShapes Go.ChangeAt Go.RowKit
theorem own : ownKnob Tryz.prog.godebug = none := by kernel_rfl
theorem law_post {H : Type} {enc : TypeId × Value → H} {P : Program} {f : Func} {s : ChangeSpec} {W W' : World} {args : Array Value} {v : Value} {ds gs : List (DataW H)} {before : List MemPlace}
    (hW : DataW.Whole enc P f.params.toList s.vars false W args.toList ds gs before) (hb : Below W.heap.size W W')
    (hargs : ∀ sp : Nat → Bool, (∀ p ∈ before, sp p.block = true) → DataW.TrodAll enc P W' 0 sp true f.params.toList args.toList (s.fn H (ds ++ gs)).args before)
    (hvars : ∀ sp : Nat → Bool, DataW.TrodVars enc P W' sp s.vars (s.fn H (ds ++ gs)).vars [])
    (hres : ∀ (b : Nat) (sp : Nat → Bool) (hd : Bool), DataW.TrodAll enc P W' b sp hd f.resultTypes.toList (v.resultList f.resultTypes.size) (s.fn H (ds ++ gs)).results [])
    (hok : ∀ (j : Nat) (t : TypeId) (r : Value), f.resultTypes[j]? = some t → (v.resultList f.resultTypes.size)[j]? = some r → Value.okWide P W' .any 0 t r) :
    s.post enc P f false true false false W args v W' := by
  have hlt : ∀ p ∈ before, p.block < W.heap.size := fun p hp => hW.lt p hp
  have low : ∀ p ∈ before, (fun b => decide (b < W.heap.size)) p.block = true := fun p hp => decide_eq_true (hlt p hp)
  have fr := hb.frame (· ∈ before)
  obtain ⟨_, _, _, _, _, hz, _⟩ := id hW
  refine ⟨ds, gs, before, [], before, [], hW, hres _ _ _, hargs _ low, hvars _, World.keptBut_mono (fun p hp => ⟨hp, .inr (.inl hp)⟩) fr, fun _ => ⟨hok, _, _, ([] ++ before) ++ [], ⟨[] ++ before, [], trodAll_append (hargs _ (fun _ _ => rfl)) (hres _ _ _), hvars _, rfl, ?_, ?_⟩, ?_⟩⟩
  · intro b off hp
    have hin : MemPlace.cell b off ∈ before := by simpa using hp
    rw [hb.frozen (hlt _ hin)]
    exact hz b off hin
  · intro ha
    cases ha
  · intro p hp _
    simpa using hp
noncomputable def lw (os : Os) : World := World.laidAll Tryz.prog os Rows.modelTablesTellRow.laid
theorem lw_met (os : Os) (args : Array Value) : laidMet Tryz.prog Rows.modelTablesTellRow.laid ((lw os).forCall (fun _ _ => 0) ⟨#[], args, []⟩).memory :=
  laidMet_laidAll args (by kernel_rfl) (by kernel_rfl)
end
end Nt
end Go.Proofs.YthabfakbdfaciaaGreat
