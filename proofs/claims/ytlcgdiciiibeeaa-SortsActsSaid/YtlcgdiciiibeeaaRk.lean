/-
  Names and lists of functions by both; same; few.
-/
import Derived.Test.YtlcgdiciiibeeaaRj
namespace Go.Proofs.Ytlcgdiciiibeeaa
open Go.ChangeShapes Go.RowKit
namespace Nt
set_option maxRecDepth 100000
set_option linter.unusedSimpArgs false
set_option linter.unusedVariables false
section
variable {X : List Nat} {B : Nat} {w0 w w' : World} {p r g N lv k : Nat} {so fu : List (ByteArray × Nat)} {ty : List Fn} {T T' R : List Nat} {L : List (Nat × Nat)} {cs : Array Value}
theorem tb_known (h : Tb X w p T N lv so fu ty) (hN : N ≤ 1000000) (x : Int) : Calls Try.prog 42 #[.pointer (some ⟨p, 0, none⟩), .int .i64 x] w fun e w' => e = .returned (.bool (knownB so.length x)) ∧ w = w' := by
  obtain ⟨⟨v1, m1, v2, m2, v3, h⟩, hnames⟩ := h
  have hn1 : so.length ≤ 1000000 := Nat.le_trans h.sS.le hN
  have hform : ∃ A c, v1 = .slice A so.length c := by
    rcases h.sS.row.2 with ⟨e, h⟩ | ⟨g, cap, cu, e, _⟩
    · exact ⟨none, 0, by rw [e, h]⟩
    · exact ⟨_, _, e⟩
  obtain ⟨A, c, rfl⟩ := hform
  exact known_any p so.length c A x w (h.bk.cell rfl) hn1
theorem name_no (h : Tb X w p T N lv so fu ty) (hN : N ≤ 1000000) (x : Int) (hx : knownB so.length x = false) :
    Calls Try.prog 23 #[.pointer (some ⟨p, 0, none⟩), .int .i64 x] w fun e w' => e = .returned (.tuple #[.string ⟨#[]⟩, .bool false]) ∧ w = w' := by
  have hk := tb_known h hN x
  rw [hx] at hk
  clear h hx
  go_enter Try.func23, Try.ntmps23
  go_wp2_with (go_at_call 42; (with_reducible refine hk.mono ?_); rintro e w' ⟨rfl, rfl⟩)
  go_ret2
  exact ⟨rfl, rfl⟩
theorem name_bool (h : Tb X w p T N lv so fu ty) (hN : N ≤ 1000000) :
    Calls Try.prog 23 #[.pointer (some ⟨p, 0, none⟩), .int .i64 0] w fun e w' => e = .returned (.tuple #[.string bBool, .bool true]) ∧ w = w' := by
  have hk := tb_known h hN 0
  rw [show knownB so.length 0 = true by simp [knownB]; omega] at hk
  clear h
  go_enter Try.func23, Try.ntmps23
  go_wp2_with (go_at_call 42; (with_reducible refine hk.mono ?_); rintro e w' ⟨rfl, rfl⟩)
  go_ret2
  exact ⟨rfl, rfl⟩
theorem name_real (h : Tb X w p T N lv so fu ty) (hN : N ≤ 1000000) :
    Calls Try.prog 23 #[.pointer (some ⟨p, 0, none⟩), .int .i64 1] w fun e w' => e = .returned (.tuple #[.string bReal, .bool true]) ∧ w = w' := by
  have hk := tb_known h hN 1
  rw [show knownB so.length 1 = true by simp [knownB]; omega] at hk
  clear h
  go_enter Try.func23, Try.ntmps23
  go_wp2_with (go_at_call 42; (with_reducible refine hk.mono ?_); rintro e w' ⟨rfl, rfl⟩)
  go_ret2
  exact ⟨rfl, rfl⟩

theorem j_name (hJ : Jj B w0 p r g cs k w) (hk : k < 900) (x : Int) :
    ∃ (s : ByteArray) (ok : Bool), Calls Try.prog 23 #[.pointer (some ⟨p, 0, none⟩), .int .i64 x] w (fun E w' => E = .returned (.tuple #[.string s, .bool ok]) ∧ w = w') ∧
      ∀ w', Below w.heap.size w w' → Calls Try.prog 24 #[.pointer (some ⟨r, 0, none⟩), .int .i64 x] w' (fun E w'' => E = .returned (.tuple #[.string s, .bool ok]) ∧ Below w'.heap.size w' w'') := by
  obtain ⟨lv, so, fu, ty, L, T, R, h1, h2⟩ := hJ
  have ks := h2.ks
  by_cases hx : knownB so.length x = true
  · obtain ⟨i, rfl⟩ : ∃ i : Nat, x = (i : Int) := by
      simp only [knownB, Bool.and_eq_true, decide_eq_true_eq] at hx
      exact ⟨x.toNat, by omega⟩
    have hi : i < so.length + 2 := by
      simp only [knownB, Bool.and_eq_true, decide_eq_true_eq] at hx
      omega
    have href : ∀ s, (bBool :: bReal :: so.map Prod.fst)[i]? = some s → ∀ w', Below w.heap.size w w' → Calls Try.prog 24 #[.pointer (some ⟨r, 0, none⟩), .int .i64 (i : Int)] w' (fun E w'' => E = .returned (.tuple #[.string s, .bool true]) ∧ Below w'.heap.size w' w'') := fun s hs w' hb => by
      obtain ⟨AN, cN, AF, cF, vL, hr⟩ := (h1.next hb).rp
      exact ref_pname_yes hr (by simp; omega) i s hs
    match i, hi, href with
    | 0, _, href => exact ⟨_, _, name_bool h1.tb (by omega), href _ rfl⟩
    | 1, _, href => exact ⟨_, _, name_real h1.tb (by omega), href _ rfl⟩
    | i + 2, hi, href =>
      have hil : i < so.length := by omega
      have e : (((i + 2 : Nat) : Int)) = (i : Int) + 2 := by omega
      rw [e] at href ⊢
      exact ⟨so[i].1, true, name_yes p T k lv so fu ty w h1.tb (by omega) i hil, href _ (by simp [hil])⟩
  · have hx' : knownB so.length x = false := by simpa using hx
    refine ⟨_, _, name_no h1.tb (by omega) x hx', fun w' hb => ?_⟩
    obtain ⟨AN, cN, AF, cF, vL, hr⟩ := (h1.next hb).rp
    exact (ref_pname_no hr (by simp; omega) x (by rw [List.length_map]; exact hx')).mono fun E w'' ⟨he, hw⟩ => ⟨he, by rw [hw]; exact .refl _ _⟩

/-- Lists of functions that are handed back, by both. -/
def FunsA (w : World) (A : Option Addr) (l : List Fn) : Prop := l = [] ∨ ∃ g, A = some ⟨g, 0, none⟩ ∧ FunsAt w g l
theorem FunsA.next {A : Option Addr} {l : List Fn} (h : FunsA w A l) (hb : Below w.heap.size w w') : FunsA w' A l := by
  rcases h with h | ⟨g, h1, h2⟩
  · exact .inl h
  · exact .inr ⟨g, h1, h2.next hb⟩
theorem j_funs (hJ : Jj B w0 p r g cs k w) (hk : k < 900) :
    ∃ l : List Fn, l.length ≤ 1000 ∧ Calls Try.prog 25 #[.pointer (some ⟨p, 0, none⟩)] w (fun E w' => ∃ A c, E = .returned (.slice A l.length c) ∧ FunsA w' A l ∧ Below w.heap.size w w') ∧
      ∀ w', Below w.heap.size w w' → Calls Try.prog 26 #[.pointer (some ⟨r, 0, none⟩)] w' (fun E w'' => ∃ A c, E = .returned (.slice A l.length c) ∧ FunsA w'' A l ∧ Below w'.heap.size w' w'') := by
  obtain ⟨lv, so, fu, ty, L, T, R, h1, h2⟩ := hJ
  have kf := h2.kf
  have hex : ∃ l : List Fn, l.Perm ty ∧ Pw l := ⟨ty.mergeSort (fun a b => decide (¬ b.nm.data.toList < a.nm.data.toList)), List.mergeSort_perm _ _, by
    have := List.pairwise_mergeSort (le := fun a b : Fn => decide (¬ b.nm.data.toList < a.nm.data.toList)) (fun a b c h1 h2 => by
      simp only [decide_eq_true_eq] at *
      exact List.not_lt.2 (List.le_trans (List.not_lt.1 h1) (List.not_lt.1 h2))) (fun a b => by
      simp only [Bool.or_eq_true, decide_eq_true_eq]
      by_cases h : b.nm.data.toList < a.nm.data.toList
      · exact .inr (List.lt_asymm h)
      · exact .inl h) ty
    exact this.imp (fun {a b} h => by simpa using h)⟩
  obtain ⟨l, hlp, hls⟩ := hex
  have uniq : ∀ m : List Fn, m.Perm ty → Pw m → m = l := fun m hm hs => by
    refine List.Perm.eq_of_pairwise (fun a b ha hb h3 h4 => ?_) hs hls (hm.trans hlp.symm)
    have ha' := hm.mem_iff.1 ha
    have hb' := hlp.mem_iff.1 hb
    have he : a.nm.data.toList = b.nm.data.toList := List.le_antisymm (List.not_lt.1 h3) (List.not_lt.1 h4)
    obtain ⟨i, hi, rfl⟩ := List.getElem_of_mem ha'
    obtain ⟨j, hj, rfl⟩ := List.getElem_of_mem hb'
    have hij : i = j := by
      have := h2.nd
      have q := (List.getElem_inj (h₀ := by simpa using hi) (h₁ := by simpa using hj) this).1 (by simpa using he)
      exact q
    subst hij
    rfl
  have hll : l.length = ty.length := hlp.length_eq
  refine ⟨l, by omega, (funs_any p T k lv so fu ty w h1.tb (by omega)).mono fun E w' ⟨g1, c, he, hg, ⟨m, hm, hs, hF⟩, hb⟩ => ?_, fun w' hb => ?_⟩
  · obtain rfl := uniq m hm hs
    exact ⟨_, c, by rw [hll]; exact he, .inr ⟨g1, rfl, hF⟩, hb⟩
  · obtain ⟨AN, cN, AF, cF, vL, hr⟩ := (h1.next hb).rp
    refine (ref_all hr (by omega)).mono fun E w'' ⟨A, c, he, m, xs, q1, q2, q3, q4, q5, q6⟩ => ?_
    rw [List.take_length] at q2
    obtain rfl := uniq m q2 q3
    refine ⟨A, c, by rw [hll]; exact he, ?_, q6⟩
    rcases q4.2 with ⟨e, h0⟩ | ⟨g2, cap, cu, e, _⟩
    · exact .inl (List.eq_nil_of_length_eq_zero (by omega))
    · cases e
      refine .inr ⟨g2, rfl, fun i hi => ?_⟩
      obtain ⟨A', c', z0, z1, z2, z3, z4⟩ := Fs.get q5 i hi
      have r0 := q4.cells (g := g2) rfl _ _ z0
      have r1 := q4.cells (g := g2) rfl _ _ z1
      have r2 := q4.cells (g := g2) rfl _ _ z2
      rw [Addr.add_lit, Nat.zero_add] at r0 r1 r2
      exact ⟨A', c', r0, r1, r2, z3.off (Off.refl [] w'') (by simp) (by simp), z4⟩

set_option maxHeartbeats 1000000 in
/-- A function is the same as itself. -/
theorem same_any (nx : ByteArray) (A A2 : Option Addr) (ar : List Int) (c c2 : Nat) (rs : Int) (w : World) (h1 : Ir [] w A ar) (h2 : Ir [] w A2 ar) (hl : ar.length ≤ 1000000) :
    Calls Try.prog 20 #[.agg #[.string nx, .slice A ar.length c, .int .i64 rs], .agg #[.string nx, .slice A2 ar.length c2, .int .i64 rs]] w fun e w' => e = .returned (.bool true) ∧ Below w.heap.size w w' := by
  have hints : ∀ W, Below w.heap.size w W → Calls Try.prog 32 #[.slice A ar.length c, .slice A2 ar.length c2] W fun e w' => e = .returned (.bool true) ∧ Below w.heap.size w w' := fun W hb => by
    have hO := Off.of_below hb []
    refine (ints_any A A2 ar ar c c2 [] [] W (h1.off hO (by simp) (by simp)) (h2.off hO (by simp) (by simp)) hl hl).mono fun e w' ⟨he, q, hq⟩ => ⟨by rw [he]; simp, by rw [hq]; exact hb.trans ((bel_dM W q).mono hb.size)⟩
  have e1 : binOp .eql 9 (.string nx) (.string nx) = pure (.bool true) := by rw [eql_s, beq_self_eq_true]
  have hB : ∀ Y Z, Below w.heap.size w ((w.alloc Y).alloc Z) := fun Y Z => (bel_al w Y).trans ((bel_al _ Z).mono (bel_al w Y).size)
  generalize ar.length = m at *
  replace hints := hide hints
  replace hB := hide hB
  clear h1 h2
  go_enter Try.func20, Try.ntmps20
  go_wp2_with (go_at_call 32; (with_reducible refine (hints.out _ (hB.out _ _)).mono ?_); rintro e w' ⟨rfl, hb⟩)
  go_ret
  exact ⟨rfl, hb⟩
end
end Nt
end Go.Proofs.Ytlcgdiciiibeeaa
