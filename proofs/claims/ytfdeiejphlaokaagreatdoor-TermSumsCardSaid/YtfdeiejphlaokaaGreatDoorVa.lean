/-
  TermSums: the seven terms, and what the law makes of them.
-/
import Derived.Test.YtfdeiejphlaokaaGreatDoorUx
namespace Go.Proofs.YtfdeiejphlaokaaGreatDoor
open Go.ChangeShapes Go.RowKit
namespace Nt
set_option maxRecDepth 100000
set_option linter.unusedSimpArgs false
set_option linter.unusedVariables false

def nZ : Nd := ⟨11, ⟨#[]⟩, false, [], [1], [], 1, 1⟩
def n3 : Nd := ⟨14, ⟨#[]⟩, false, [], [], [1], 1, 2⟩
def n4 : Nd := ⟨16, ⟨#[]⟩, false, [], [], [1, 3], 1, 2⟩
def n5 : Nd := ⟨14, ⟨#[]⟩, false, [], [], [2], 1, 1⟩
def n6 : Nd := ⟨13, ⟨#[]⟩, false, [], [], [1, 1], 1, 0⟩
def ns7 : List Nd := [nX, nT, nZ, n3, n4, n5, n6]

/-- How many have a part that is no number; is one of those behind the first no divisor? -/
def frN (l : List Int) : Nat := (l.filter fun k => k == 0 || k == 6).length
def bdP (k : Int) : Bool := k == 0 || k == 6 || k == 2 || k == 5
def bdB (l : List Int) : Bool := (l.drop 1).any bdP
theorem frN_push (l : List Int) (k : Int) : frN (l ++ [k]) = frN l + (if k = 0 ∨ k = 6 then 1 else 0) := by
  unfold frN
  rw [List.filter_append, List.length_append]
  congr 1
  by_cases h : k = 0 ∨ k = 6
  · rw [if_pos h]
    rcases h with rfl | rfl <;> rfl
  · rw [if_neg h, List.filter_cons_of_neg (by simp; omega)]
    rfl
theorem bdB_push (l : List Int) (k : Int) : bdB (l ++ [k]) = if l = [] then false else (bdB l || bdP k) := by
  cases l with
  | nil => rfl
  | cons a l => simp [bdB, List.any_append]
theorem seven {k : Int} (h0 : 0 ≤ k) (h1 : k < 7) : k = 0 ∨ k = 1 ∨ k = 2 ∨ k = 3 ∨ k = 4 ∨ k = 5 ∨ k = 6 := by omega
theorem so7 {a : Int} (h : 0 ≤ a ∧ a < 7) : soAt ns7 a = 1 := by
  rcases seven h.1 h.2 with rfl | rfl | rfl | rfl | rfl | rfl | rfl <;> rfl
theorem wo70 {a : Int} (h : 0 ≤ a ∧ a < 7) : (woAt ns7 a == 0) = (a == 0 || a == 6) := by
  rcases seven h.1 h.2 with rfl | rfl | rfl | rfl | rfl | rfl | rfl <;> rfl
theorem wo72 {a : Int} (h : 0 ≤ a ∧ a < 7) : (woAt ns7 a == 2) = !bdP a := by
  rcases seven h.1 h.2 with rfl | rfl | rfl | rfl | rfl | rfl | rfl <;> rfl
theorem all7 {l : List Int} (h : ∀ a ∈ l, 0 ≤ a ∧ a < (7 : Int)) : allB ns7 1 l = true := by
  unfold allB
  rw [List.all_eq_true]
  intro a ha
  rw [so7 (h a ha)]
  rfl
theorem srt_mul {l : List Int} (h : ∀ a ∈ l, 0 ≤ a ∧ a < (7 : Int)) : srtB ns7 15 l = (decide ((frN l : Int) ≤ 1) && decide (1 < (l.length : Int))) := by
  have e : srtB ns7 15 l = recB ns7 15 l := by unfold srtB; simp
  have hc : cntT ns7 0 l = frN l := by
    unfold cntT frN
    exact congrArg List.length (List.filter_congr fun a ha => wo70 (h a ha))
  rw [e]
  unfold recB
  rw [all7 h, if_pos rfl, hc]
  simp only [Bool.and_true]
  rw [Bool.eq_iff_iff]
  simp
  omega
theorem cnt_all {l : List Int} (h : ∀ a ∈ l, 0 ≤ a ∧ a < (7 : Int)) : decide (cntT ns7 2 l = l.length) = !(l.any bdP) := by
  unfold cntT
  rw [Bool.eq_iff_iff]
  simp only [decide_eq_true_eq, Bool.not_eq_true', List.any_eq_false]
  rw [List.length_filter_eq_length_iff]
  constructor
  · intro hh a ha
    have := hh a ha
    rw [wo72 (h a ha)] at this
    simpa using this
  · intro hh a ha
    rw [wo72 (h a ha)]
    simpa using hh a ha
theorem srt_div {l : List Int} (h : ∀ a ∈ l, 0 ≤ a ∧ a < (7 : Int)) : srtB ns7 16 l = (!bdB l && decide (1 < (l.length : Int))) := by
  have e : srtB ns7 16 l = recB ns7 16 l := by unfold srtB; simp
  have hc := cnt_all (l := l.drop 1) (fun a ha => h a (List.mem_of_mem_drop ha))
  rw [List.length_drop] at hc
  rw [e]
  unfold recB bdB
  rw [all7 h, if_neg (by decide), if_pos rfl, hc]
  simp only [Bool.and_true]
  rw [Bool.eq_iff_iff]
  simp
  constructor
  · rintro ⟨⟨a, b⟩, c⟩; exact ⟨c, by omega⟩
  · rintro ⟨c, a⟩; exact ⟨⟨by omega, by omega⟩, c⟩

section
variable {X : List Nat} {B : Nat} {w W : World} {q : Nat}
/-- A product or a quotient, made of what is there. -/
theorem fin_any (h : Tt X B w W q 7 so0 (fuN 10) dcl ns7) (op : Int) (hop : op = 15 ∨ op = 16) (C : Option Addr) (ar : List Int) (e : Nat) (hC : Rx X B W C (zs ar)) (nC : 1 ≤ ar.length) (n10 : ar.length ≤ 10) (hcap : ar.length ≤ e) (he : e ≤ maxLen) (hin : ∀ a ∈ ar, 0 ≤ a ∧ a < (7 : Int)) :
    Calls Tryz.prog 16 (zArgs q op C ar.length e) W fun ee w' => ∃ x, ee = .returned (.tuple #[.int .i64 x, .int .i64 (if srtB ns7 op ar = true then 0 else 3)]) ∧ Below B w w' := by
  have hin' : ∀ a ∈ ar, 0 ≤ a ∧ a < ((ns7 : List Nd).length : Int) := hin
  have hbase := h.base
  have hb0 := h.below
  by_cases hs : srtB ns7 op ar = true
  · rw [if_pos hs]
    have hso : srtS ns7 op ar = 1 := by rcases hop with rfl | rfl <;> (unfold srtS; simp)
    by_cases hold : ∃ m ∈ ns7, kvl m = kvl ⟨op, ⟨#[]⟩, false, [], [], ar, srtS ns7 op ar, 0⟩
    · obtain ⟨m, hm, hk⟩ := hold
      obtain ⟨i, hi, rfl⟩ := List.getElem_of_mem hm
      exact (mk_op_old h (by decide) op (by omega) (by omega) (by omega) (by omega) C ar e hC (by omega) hcap he hin' hs (by rw [hso]; decide) i hi hk).mono fun ee w' ⟨h1, h2⟩ => ⟨_, h1, hb0.trans (h2.mono hbase)⟩
    · have hwo : 0 ≤ wOf ns7 op [] ar ∧ wOf ns7 op [] ar ≤ 2 := by
        rcases hop with rfl | rfl
        · have : wOf ns7 15 [] ar = 0 := by unfold wOf; simp
          rw [this]; decide
        · have : wOf ns7 16 [] ar = woAt ns7 (ar.getD 0 0) := by unfold wOf; simp
          rw [this]
          have hx := hin (ar.getD 0 0) (by rw [List.getD_eq_getElem?_getD, List.getElem?_eq_getElem (by omega)]; exact List.getElem_mem (by omega))
          rcases seven hx.1 hx.2 with e | e | e | e | e | e | e <;> rw [e] <;> decide
      exact (mk_op_new h (by decide) op (by omega) (by omega) (by omega) (by omega) C ar e hC (by omega) hcap he hin' hs (by decide) (fun _ => by omega) (by rw [hso]; decide) hwo (fun m hm hk => hold ⟨m, hm, hk⟩)).mono fun ee w' ⟨h1, h2, _⟩ => ⟨_, h1, h2.below⟩
  · rw [if_neg hs]
    exact (mk_op_sort h (by decide) op (by omega) (by omega) (by omega) (by omega) C ar e hC.ir (by omega) hcap he hin' (by simpa using hs)).mono fun ee w' ⟨h1, h2⟩ => ⟨_, h1, hb0.trans (h2.mono hbase)⟩
end

/-- At the loop's head: the args so far; gi holds the seven ids. -/
structure Sv (B : Nat) (w W : World) (q gi : Nat) (v : Value) (l : List Int) : Prop where
  tt : Tt (gi :: v.ownBlock.toList) B w W q 7 so0 (fuN 10) dcl ns7
  row : Zw B W v l
  ids : Bk gi #[.int .i64 0, .int .i64 1, .int .i64 2, .int .i64 3, .int .i64 4, .int .i64 5, .int .i64 6] 3 W
  ne : ∀ b, v.ownBlock = some b → b ≠ gi ∧ B ≤ b
theorem Sv.push {B : Nat} {w W : World} {q gi : Nat} {v : Value} {l : List Int} (h : Sv B w W q gi v l) (x : Int) (hl : l.length ≤ 1000) :
    ∃ A' c' W', (∀ ty, (Builtin.append_ #[22, 22] ty #[v, .slice (some ⟨W.heap.size, 0, none⟩) 1 1]).run Tryz.prog (W.alloc (.cells #[.int .i64 x] 3)) = .ok (.slice A' (l.length + 1) c') W') ∧ Sv B w W' q gi (.slice A' (l.length + 1) c') (l ++ [x]) := by
  obtain ⟨A', c', W', hr, k1, k2, k3, k4⟩ := h.row.push h.tt.base x (by omega)
  have hgl := h.ids.lt
  have hgn : gi ∉ v.ownBlock.toList := fun hm => by rw [Option.mem_toList] at hm; exact (h.ne gi hm).1 rfl
  refine ⟨A', c', W', hr, h.tt.offTurn k3 (fun b hb => ⟨List.mem_cons_of_mem _ hb, (h.ne b (by rwa [Option.mem_toList] at hb)).2⟩) (fun b hb => ?_), k1, h.ids.off k3 hgn, fun b hb => ?_⟩
  · rcases List.mem_cons.1 hb with rfl | hb
    · exact ⟨.inl (by simp), Nat.lt_of_lt_of_le hgl k3.size⟩
    · rw [Option.mem_toList] at hb
      exact ⟨(k4 b hb).imp (fun h => List.mem_cons_of_mem _ (by rw [Option.mem_toList]; exact h)) id, row_lt k1 hb⟩
  · rcases k4 b hb with hx | hx
    · exact h.ne b hx
    · exact ⟨by omega, Nat.le_trans h.tt.base hx⟩
theorem Sv.rx {B : Nat} {w W : World} {q gi c : Nat} {A : Option Addr} {l : List Int} (h : Sv B w W q gi (.slice A l.length c) l) (h1 : 1 ≤ l.length) :
    Tt (gi :: (Value.slice A l.length c).ownBlock.toList) B w W q 7 so0 (fuN 10) dcl ns7 ∧ Rx (gi :: (Value.slice A l.length c).ownBlock.toList) B W A (zs l) ∧ l.length ≤ c ∧ c ≤ maxLen := by
  rcases h.row.2 with ⟨e, h0⟩ | ⟨g, cap, cu, e, h2, h3, h4, h5, _⟩
  · omega
  · cases e
    refine ⟨h.tt, .inr ⟨g, 0, rfl, .inl (by simp [Value.ownBlock]), (Array.getElem?_eq_some_iff.1 h3).1, fun j v hj => ?_⟩, h4, h5⟩
    have := h.row.cells (g := g) rfl j v hj
    rwa [Addr.add_lit] at this
theorem Sv.start {B : Nat} {w W : World} {q : Nat} (h : Tt [] B w W q 7 so0 (fuN 10) dcl ns7) : Sv B w (W.alloc (.cells #[.int .i64 0, .int .i64 1, .int .i64 2, .int .i64 3, .int .i64 4, .int .i64 5, .int .i64 6] 3)) q W.heap.size (.slice none 0 0) [] :=
  ⟨by simpa [Value.ownBlock] using h.alloc (.cells #[.int .i64 0, .int .i64 1, .int .i64 2, .int .i64 3, .int .i64 4, .int .i64 5, .int .i64 6] 3), Zw.nil _ _, Bk.new _ _ _, by simp [Value.ownBlock]⟩

theorem take_push {l : List Int} {i : Nat} (h : i < l.length) : l.take (i + 1) = l.take i ++ [l.getD i 0] := by
  rw [List.take_add_one, List.getElem?_eq_getElem h]
  simp [List.getD, List.getElem?_eq_getElem h]

set_option maxHeartbeats 32000000 in
theorem sums_law (A0 : Option Addr) (xs : List Int) (c0 : Nat) (dv : Bool) (w : World) (hir : Ir [] w A0 xs) : Calls Tryz.prog 4 #[.slice A0 xs.length c0, .bool dv] w fun e w' => e = .returned (.bool true) ∧ Below w.heap.size w w' := by
  by_cases hfar : xs.length < 1 ∨ 10 < xs.length
  · have ha := awake7 w
    clear hir
    generalize xs.length = m at *
    rcases hfar with hm | hm
    · go_enter Tryz.func4, Tryz.ntmps4
      go_wp2_with (go_at_call 6; (with_reducible refine ha.mono ?_); rintro e w1 ⟨rfl, hb⟩; replace hb := hide hb)
      go_ret
      exact ⟨rfl, hb.out⟩
    · have hm1 : 1 ≤ m := by omega
      go_enter Tryz.func4, Tryz.ntmps4
      go_wp2_with (go_at_call 6; (with_reducible refine ha.mono ?_); rintro e w1 ⟨rfl, hb⟩; replace hb := hide hb)
      go_ret
      exact ⟨rfl, hb.out⟩
  have hm1 : 1 ≤ xs.length := by omega
  have hm10 : xs.length ≤ 10 := by omega
  obtain ⟨B, hB⟩ : ∃ B, B = w.heap.size := ⟨_, rfl⟩
  have hrd : ∀ W, Below B w W → ∀ i, i < xs.length → ∃ b o, A0 = some ⟨b, o, none⟩ ∧ W.cell? ⟨b, o + i, none⟩ = some (.int .i64 (xs.getD i 0)) := by
    intro W hb i hi
    rw [hB] at hb
    rcases hir.off (T' := []) (Off.of_below hb []) (by simp) (by simp) with he | ⟨b, o, e, _, _, hc⟩
    · rw [he] at hi; simp at hi
    · exact ⟨b, o, e, hc i hi⟩
  have haw : ∀ W, Below B w W → B ≤ W.heap.size → Calls Tryz.prog 6 #[] W fun e w' => e = .returned (.bool true) ∧ Below B w w' := fun W hb hB => (awake7 W).mono fun e w' ⟨he, h1⟩ => ⟨he, hb.trans (h1.mono hB)⟩
  have ht := tables_t w
  rw [← hB] at ht ⊢
  obtain ⟨ks, hks⟩ : ∃ ks : List Int, ks = xs.map fun x => x % ((7 : Nat) : Int) := ⟨_, rfl⟩
  have hkl : ks.length = xs.length := by rw [hks, List.length_map]
  have hkin : ∀ a ∈ ks, 0 ≤ a ∧ a < (7 : Int) := by
    intro a ha
    rw [hks] at ha
    obtain ⟨x, _, rfl⟩ := List.mem_map.1 ha
    omega
  have hkat : ∀ i, i < xs.length → ks.getD i 0 = xs.getD i 0 % ((7 : Nat) : Int) := by
    intro i hi
    rw [hks]
    simp [List.getD_eq_getElem?_getD, List.getElem?_map, List.getElem?_eq_getElem hi]
  have hmul := srt_mul hkin
  have hdiv := srt_div hkin
  generalize hm : xs.length = m at *
  replace hkat := hide hkat; replace hm := hide hm; replace hks := hide hks; replace hkin := hide hkin; replace hkl := hide hkl; replace hmul := hide hmul; replace hdiv := hide hdiv
  replace hrd := hide hrd
  replace haw := hide haw
  replace ht := hide ht
  replace hB := hide hB
  clear hir hfar
  have cx : ∀ q W, Tt [] B w W q 0 so0 (fuN 10) dcl [] → Calls Tryz.prog 14 #[.pointer (some ⟨q, 0, none⟩), .string ⟨#[120]⟩] W fun e w' => e = .returned (.int .i64 0) ∧ Tt [] B w w' q 1 so0 (fuN 10) dcl [nX] := fun q W h =>
    (con_new h (by decide) ⟨#[120]⟩ (by decide) 0 (by decide) rfl rfl (by decide) (by decide) (by simp)).mono fun e w' ⟨he, h1, _⟩ => ⟨he, h1⟩
  have c2 : ∀ q W, Tt [] B w W q 1 so0 (fuN 10) dcl [nX] → Calls Tryz.prog 15 #[.pointer (some ⟨q, 0, none⟩), .int .i64 2] W fun e w' => e = .returned (.int .i64 1) ∧ Tt [] B w w' q 2 so0 (fuN 10) dcl [nX, nT] := fun q W h =>
    (num_new h (by decide) (by simp) 2 (by decide) (by decide) (by intro m hm; simp at hm; subst hm; exact kv_ne (by decide))).mono fun e w' ⟨he, h1, _⟩ => ⟨he, h1⟩
  have c3 : ∀ q W, Tt [] B w W q 2 so0 (fuN 10) dcl [nX, nT] → Calls Tryz.prog 15 #[.pointer (some ⟨q, 0, none⟩), .int .i64 0] W fun e w' => e = .returned (.int .i64 2) ∧ Tt [] B w w' q 3 so0 (fuN 10) dcl [nX, nT, nZ] := fun q W h =>
    (num_new h (by decide) (by simp) 0 (by decide) (by decide) (by intro m hm; simp at hm; rcases hm with rfl | rfl; exact kv_ne (by decide); exact kv_num (by decide))).mono fun e w' ⟨he, h1, _⟩ => ⟨he, h1⟩
  have c4 : ∀ q W, Tt [] B w W q 3 so0 (fuN 10) dcl [nX, nT, nZ] → Calls Tryz.prog 16 (zArgs q 14 (some ⟨W.heap.size, 0, none⟩) 1 1) (W.alloc (.cells #[.int .i64 1] 3)) fun e w' => e = .returned (.tuple #[.int .i64 3, .int .i64 0]) ∧ Tt [] B w w' q 4 so0 (fuN 10) dcl [nX, nT, nZ, n3] := fun q W h =>
    (mk_op_new (h.alloc _) (by decide) 14 (by decide) (by decide) (by decide) (by decide) _ [1] 1 (one_rx W 1 h.base) (by decide) (by decide) (by decide) (by decide) (by decide) (by decide) (by decide) (by decide) (by decide) (by intro m hm; simp at hm; rcases hm with rfl | rfl | rfl <;> exact kv_ne (by decide))).mono fun e w' ⟨he, h1, _⟩ => ⟨he, h1.less (by simp)⟩
  have c5 : ∀ q W, Tt [] B w W q 4 so0 (fuN 10) dcl [nX, nT, nZ, n3] → Calls Tryz.prog 16 (zArgs q 16 (some ⟨W.heap.size, 0, none⟩) 2 2) (W.alloc (.cells #[.int .i64 1, .int .i64 3] 3)) fun e w' => e = .returned (.tuple #[.int .i64 4, .int .i64 0]) ∧ Tt [] B w w' q 5 so0 (fuN 10) dcl [nX, nT, nZ, n3, n4] := fun q W h =>
    (mk_op_new (h.alloc _) (by decide) 16 (by decide) (by decide) (by decide) (by decide) _ [1, 3] 2 (two_rx W 1 3 h.base) (by decide) (by decide) (by decide) (by decide) (by decide) (by decide) (by decide) (by decide) (by decide) (by intro m hm; simp at hm; rcases hm with rfl | rfl | rfl | rfl <;> exact kv_ne (by decide))).mono fun e w' ⟨he, h1, _⟩ => ⟨he, h1.less (by simp)⟩
  have c6 : ∀ q W, Tt [] B w W q 5 so0 (fuN 10) dcl [nX, nT, nZ, n3, n4] → Calls Tryz.prog 16 (zArgs q 14 (some ⟨W.heap.size, 0, none⟩) 1 1) (W.alloc (.cells #[.int .i64 2] 3)) fun e w' => e = .returned (.tuple #[.int .i64 5, .int .i64 0]) ∧ Tt [] B w w' q 6 so0 (fuN 10) dcl [nX, nT, nZ, n3, n4, n5] := fun q W h =>
    (mk_op_new (h.alloc _) (by decide) 14 (by decide) (by decide) (by decide) (by decide) _ [2] 1 (one_rx W 2 h.base) (by decide) (by decide) (by decide) (by decide) (by decide) (by decide) (by decide) (by decide) (by decide) (by intro m hm; simp at hm; rcases hm with rfl | rfl | rfl | rfl | rfl; exact kv_ne (by decide); exact kv_ne (by decide); exact kv_ne (by decide); exact kv_args (by decide); exact kv_ne (by decide))).mono fun e w' ⟨he, h1, _⟩ => ⟨he, h1.less (by simp)⟩
  have c7 : ∀ q W, Tt [] B w W q 6 so0 (fuN 10) dcl [nX, nT, nZ, n3, n4, n5] → Calls Tryz.prog 16 (zArgs q 13 (some ⟨W.heap.size, 0, none⟩) 2 2) (W.alloc (.cells #[.int .i64 1, .int .i64 1] 3)) fun e w' => e = .returned (.tuple #[.int .i64 6, .int .i64 0]) ∧ Tt [] B w w' q 7 so0 (fuN 10) dcl ns7 := fun q W h =>
    (mk_op_new (h.alloc _) (by decide) 13 (by decide) (by decide) (by decide) (by decide) _ [1, 1] 2 (two_rx W 1 1 h.base) (by decide) (by decide) (by decide) (by decide) (by decide) (by decide) (by decide) (by decide) (by decide) (by intro m hm; simp at hm; rcases hm with rfl | rfl | rfl | rfl | rfl | rfl <;> exact kv_ne (by decide))).mono fun e w' ⟨he, h1, _⟩ => ⟨he, h1.less (by simp)⟩
  unfold zArgs mkArgs at c4 c5 c6 c7
  replace cx := hide cx; replace c2 := hide c2; replace c3 := hide c3; replace c4 := hide c4; replace c5 := hide c5; replace c6 := hide c6; replace c7 := hide c7
  go_enter Tryz.func4, Tryz.ntmps4
  go_wp2_with (first
    | (go_at_call 7; (with_reducible refine ht.out.mono ?_); rintro e w1 ⟨q, z, rfl, T1⟩; replace T1 := hide T1)
    | (go_at_call 14; (with_reducible refine (cx.out _ _ T1.out).mono ?_); rintro e w2 ⟨rfl, T2⟩; replace T2 := hide T2; clear T1)
    | (go_at_call 15; (with_reducible refine (c2.out _ _ T2.out).mono ?_); rintro e w3 ⟨rfl, T3⟩; replace T3 := hide T3; clear T2)
    | (go_at_call 15; (with_reducible refine (c3.out _ _ T3.out).mono ?_); rintro e w4 ⟨rfl, T4⟩; replace T4 := hide T4; clear T3)
    | (go_at_call 16; (with_reducible refine (c4.out _ _ T4.out).mono ?_); rintro e w5 ⟨rfl, T5⟩; replace T5 := hide T5; clear T4)
    | (go_at_call 16; (with_reducible refine (c5.out _ _ T5.out).mono ?_); rintro e w6 ⟨rfl, T6⟩; replace T6 := hide T6; clear T5)
    | (go_at_call 16; (with_reducible refine (c6.out _ _ T6.out).mono ?_); rintro e w7 ⟨rfl, T7⟩; replace T7 := hide T7; clear T6)
    | (go_at_call 16; (with_reducible refine (c7.out _ _ T7.out).mono ?_); rintro e w8 ⟨rfl, T8⟩; replace T8 := hide (Sv.start T8); clear T7))
  clear cx c2 c3 c4 c5 c6 c7 ht
  generalize w8.heap.size = gi at *
  go_loopw [19, 20, 21, 22] (fun v fr bd ii wr => ∃ (i : Nat) (A : Option Addr) (c : Nat), i ≤ m ∧ ii = .int .i64 (i : Int) ∧ v = .slice A i c ∧ fr = .int .i64 (frN (ks.take i) : Int) ∧ bd = .bool (bdB (ks.take i)) ∧ Sv B w wr q gi (.slice A i c) (ks.take i)) (fun _ _ _ ii _ => m - (intOf ii).toNat)
  case atStart => exact ⟨0, none, 0, Nat.zero_le _, rfl, rfl, rfl, rfl, T8.out⟩
  case round =>
    obtain ⟨i, A, c, hi, rfl, rfl, rfl, rfl, hS⟩ := hrel
    by_cases hlt : i < m
    · obtain ⟨b, o, rfl, hc⟩ := hrd.out wr hS.tt.below i hlt
      obtain ⟨k, hk⟩ : ∃ k, k = ks.getD i 0 := ⟨_, rfl⟩
      have hr : ∀ W, Calls Tryz.prog 8 #[.int .i64 (xs.getD i 0), .int .i64 7] W fun e w' => e = .returned (.int .i64 k) ∧ W = w' := fun W => by
        have := round_any (xs.getD i 0) 7 (by decide) (by decide) W
        rw [← hkat.out i hlt, ← hk] at this
        exact this
      have hik : i < ks.length := by rw [hkl.out]; exact hlt
      have hk7 : 0 ≤ k ∧ k < 7 := hkin.out k (by rw [hk, List.getD_eq_getElem?_getD, List.getElem?_eq_getElem hik]; exact List.getElem_mem hik)
      have htk : ks.take (i + 1) = ks.take i ++ [k] := by rw [hk]; exact take_push hik
      have hfr := frN_push (ks.take i) k
      have hbd := bdB_push (ks.take i) k
      have hli : (ks.take i).length = i := by rw [List.length_take]; omega
      obtain ⟨A', c', w9, hap, hS'⟩ := hS.push k (by rw [hli]; omega)
      rw [← htk] at hfr hbd hS'
      rw [hli] at hap hS'
      have y0 := hS.ids.cell (j := 0) rfl
      have y1 := hS.ids.cell (j := 1) rfl
      have y2 := hS.ids.cell (j := 2) rfl
      have y3 := hS.ids.cell (j := 3) rfl
      have y4 := hS.ids.cell (j := 4) rfl
      have y5 := hS.ids.cell (j := 5) rfl
      have y6 := hS.ids.cell (j := 6) rfl
      have hfl : frN (ks.take i) ≤ 10 := Nat.le_trans (List.length_filter_le _ _) (by rw [hli]; omega)
      have hcase : (i = 0 ∧ bdB (ks.take i) = false ∧ bdB (ks.take (i + 1)) = false) ∨ (0 < i ∧ bdB (ks.take (i + 1)) = (bdB (ks.take i) || bdP k)) := by
        by_cases h0 : i = 0
        · subst h0
          exact .inl ⟨rfl, rfl, by rw [hbd]; rfl⟩
        · refine .inr ⟨by omega, ?_⟩
          rw [hbd, if_neg (fun e => by rw [e] at hli; simp at hli; omega)]
      replace hr := hide hr; replace hfr := hide hfr; replace hS' := hide hS'; replace hk := hide hk
      clear hbd hli htk hik hS
      generalize hf' : frN (ks.take (i + 1)) = f' at *
      replace hf' := hide hf'
      generalize frN (ks.take i) = f at *
      generalize hbe : bdB (ks.take (i + 1)) = bb' at *
      replace hbe := hide hbe
      generalize bdB (ks.take i) = bb at *
      generalize xs.getD i 0 = x at *
      rcases hcase with ⟨h0, hb0, hbb⟩ | ⟨hpos, hbb⟩
      · subst hb0
        have hnp : ¬ (0 < (i : Int)) := by omega
        clear h0
        rcases seven hk7.1 hk7.2 with rfl | rfl | rfl | rfl | rfl | rfl | rfl
        all_goals
          go_wp2_with (first
            | (go_at_call 8; (with_reducible refine (hr.out _).mono ?_); rintro e wa ⟨rfl, rfl⟩)
            | (at_builtin; refine wpList_append_run _ rfl _ _ _ rfl _ _ _ _ rfl rfl hap ?_))
          go_roundw
          case rel => exact ⟨i + 1, A', c', hlt, by go_num, rfl, by rw [hf'.out, hfr.out]; simp, by rw [hbe.out, hbb], hS'.out⟩
          case measure => simp only [intOf]; omega
      · have hpp : 0 < (i : Int) := by omega
        cases bb <;> rcases seven hk7.1 hk7.2 with rfl | rfl | rfl | rfl | rfl | rfl | rfl
        all_goals
          go_wp2_with (first
            | (go_at_call 8; (with_reducible refine (hr.out _).mono ?_); rintro e wa ⟨rfl, rfl⟩)
            | (at_builtin; refine wpList_append_run _ rfl _ _ _ rfl _ _ _ _ rfl rfl hap ?_))
          go_roundw
          case rel => exact ⟨i + 1, A', c', hlt, by go_num, rfl, by rw [hf'.out, hfr.out]; simp, by rw [hbe.out, hbb]; rfl, hS'.out⟩
          case measure => simp only [intOf]; omega
    · have hmi : i = m := by omega
      subst hmi
      have hwk : ks.take i = ks := by rw [← hkl.out, List.take_length]
      rw [hwk] at hS
      have hx := Sv.rx (l := ks) (A := A) (c := c) (by rw [hkl.out]; exact hS) (by rw [hkl.out]; exact hm1)
      have hF : ∀ op : Int, op = 15 ∨ op = 16 → _ := fun op hop => fin_any hx.1 op hop A ks c hx.2.1 (by rw [hkl.out]; exact hm1) (by rw [hkl.out]; exact hm10) hx.2.2.1 hx.2.2.2 hkin.out
      rw [hwk]
      have hmul := hmul.out
      have hdiv := hdiv.out
      rw [hkl.out] at hmul hdiv hF
      unfold zArgs mkArgs at hF
      clear hx hS hwk
      cases dv
      · replace hF := hF 15 (.inl rfl)
        rw [hmul] at hF
        clear hmul hdiv
        generalize frN ks = f at *
        generalize bdB ks = bb at *
        by_cases g1 : (f : Int) ≤ 1 <;> by_cases g2 : 1 < (i : Int) <;> simp only [g1, g2, decide_true, decide_false, Bool.and_true, Bool.and_false, Bool.false_and, Bool.true_and, if_true, if_false, Bool.false_eq_true, reduceIte] at hF
        all_goals
          replace hF := hide hF
          go_wp2_with (first
            | (go_at_call 16; (with_reducible refine hF.out.mono ?_); rintro e wa ⟨x, rfl, hba⟩; replace hba := hide hba)
            | (go_at_call 6; (with_reducible refine (haw.out _ hba.out (Nat.le_trans (Nat.le_of_eq hB.out) hba.out.size)).mono ?_); rintro e wb ⟨rfl, hbb'⟩; replace hbb' := hide hbb'))
          go_ret
          exact ⟨by first | rfl | (show Ending.returned (.bool _) = _; simp [g2]), hbb'.out⟩
      · replace hF := hF 16 (.inr rfl)
        rw [hdiv] at hF
        clear hmul hdiv
        generalize frN ks = f at *
        generalize bdB ks = bb at *
        cases bb <;> by_cases g2 : 1 < (i : Int) <;> simp only [g2, decide_true, decide_false, Bool.and_true, Bool.and_false, Bool.false_and, Bool.true_and, Bool.not_true, Bool.not_false, if_true, if_false, Bool.false_eq_true, reduceIte] at hF
        all_goals
          replace hF := hide hF
          go_wp2_with (first
            | (go_at_call 16; (with_reducible refine hF.out.mono ?_); rintro e wa ⟨x, rfl, hba⟩; replace hba := hide hba)
            | (go_at_call 6; (with_reducible refine (haw.out _ hba.out (Nat.le_trans (Nat.le_of_eq hB.out) hba.out.size)).mono ?_); rintro e wb ⟨rfl, hbb'⟩; replace hbb' := hide hbb'))
          go_ret
          exact ⟨by first | rfl | (show Ending.returned (.bool _) = _; simp [g2]), hbb'.out⟩
end Nt
end Go.Proofs.YtfdeiejphlaokaaGreatDoor
