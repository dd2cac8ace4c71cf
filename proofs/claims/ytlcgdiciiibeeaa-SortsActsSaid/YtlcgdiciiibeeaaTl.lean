/-
  A function is found.
-/
import Derived.Test.YtlcgdiciiibeeaaTk
namespace Go.Proofs.Ytlcgdiciiibeeaa
open Go.ChangeShapes Go.RowKit
namespace Nt
set_option maxRecDepth 100000
variable {X : List Nat}
set_option linter.unusedSimpArgs false
set_option linter.unusedVariables false

theorem Fs.get {T : List Nat} {w : World} : ∀ {fs : List Fn} {vs : List Value} (_ : Fs T w fs vs) (i : Nat) (hi : i < fs.length), ∃ A c, vs[i * 3]? = some (.string fs[i].nm) ∧ vs[i * 3 + 1]? = some (.slice A fs[i].ar.length c) ∧ vs[i * 3 + 2]? = some (.int .i64 fs[i].rs) ∧ Ir T w A fs[i].ar ∧ fs[i].ar.length ≤ 64
  | f :: fs, _, ⟨A, c, r, e, h1, h2, _⟩, 0, _ => by subst e; exact ⟨A, c, rfl, rfl, rfl, h1, h2⟩
  | f :: fs, _, ⟨A', c', r, e, _, _, h3⟩, i + 1, hi => by
    subst e
    obtain ⟨A, c, q0, q1, q2, q3, q4⟩ := Fs.get h3 i (by simpa using hi)
    have e0 : (i + 1) * 3 = i * 3 + 1 + 1 + 1 := by omega
    have e1 : (i + 1) * 3 + 1 = i * 3 + 1 + 1 + 1 + 1 := by omega
    have e2 : (i + 1) * 3 + 2 = i * 3 + 2 + 1 + 1 + 1 := by omega
    refine ⟨A, c, ?_, ?_, ?_, by simpa using q3, by simpa using q4⟩
    · rw [e0]; simpa using q0
    · rw [e1]; simpa using q1
    · rw [e2]; simpa using q2

set_option maxHeartbeats 2000000 in
theorem find_yes (p : Nat) (T : List Nat) (N lv : Nat) (so fu : List (ByteArray × Nat)) (ty : List Fn) (s : ByteArray) (w : World) (h : Tb X w p T N lv so fu ty) (hs : s.size ≤ maxLen) (hN : N ≤ 1000000) (i : Nat) (hi : i < fu.length) (hi2 : i < ty.length) (hx : fu[i].1.data.toList = s.data.toList) :
    Calls Try.prog 18 #[.pointer (some ⟨p, 0, none⟩), .string s] w fun e w' => ∃ A c, e = .returned (.tuple #[.agg #[.string ty[i].nm, .slice A ty[i].ar.length c, .int .i64 ty[i].rs], .bool true]) ∧ (∀ S : List Nat, (∀ b ∈ S, b < w.heap.size) → Ir S w' A ty[i].ar) ∧ Below w.heap.size w w' := by
  obtain ⟨⟨v1, m1, v2, m2, v3, h⟩, hnames⟩ := h
  obtain ⟨W0, hW0⟩ : ∃ W, W = w.alloc (.cells #[.string ⟨#[]⟩, .slice none 0 0, .int .i64 0] 35) := ⟨_, rfl⟩
  have hX : Bk w.heap.size #[.string ⟨#[]⟩, .slice none 0 0, .int .i64 0] 35 W0 := by rw [hW0]; exact Bk.new _ _ _
  have hb0 : Below w.heap.size w W0 := by rw [hW0]; exact (Below.refl _ _).alloc (Nat.le_refl _) _
  have h0 : TbP X W0 p T N lv so fu ty v1 m1 v2 m2 v3 := h.off (S := []) (.of_below hb0 [])
  have hall : hasB fu s = true := by
    unfold hasB
    rw [List.any_eq_true]
    exact ⟨fu[i], List.getElem_mem hi, by rw [hx]; exact beq_self_eq_true _⟩
  have hplace := place_any p 3 m2 N fu s W0 (h0.bk.cell rfl) h0.fS.map hs
  rw [hall] at hplace
  obtain ⟨xs, hrow, hF⟩ := h0.tS
  obtain ⟨A, c, q0, q1, q2, q3, q4⟩ := Fs.get hF i hi2
  have hform : ∃ gt cap, v3 = .slice (some ⟨gt, 0, none⟩) ty.length cap := by
    rcases hrow.2 with ⟨e, h⟩ | ⟨g, cap, cu, e, _⟩
    · omega
    · exact ⟨_, _, e⟩
  obtain ⟨gt, cap, rfl⟩ := hform
  have r0 := hrow.cells (g := gt) rfl _ _ q0
  have r1 := hrow.cells (g := gt) rfl _ _ q1
  have r2 := hrow.cells (g := gt) rfl _ _ q2
  rw [Addr.add_lit, Nat.zero_add] at r0 r1 r2
  have y5 : W0.cell? ⟨p, 5, none⟩ = some (.slice (some ⟨gt, 0, none⟩) ty.length cap) := h0.bk.cell rfl
  have hown := own_any ty[i].nm A ty[i].ar c ty[i].rs _ W0 q3 (by omega)
  have hix : ∀ x : Int, (∀ j (h : j < fu.length), fu[j].1.data.toList = s.data.toList → x = (j : Int)) → x = (i : Int) := fun x h => h i hi hx
  have hix := hide hix
  have hn2 : ty.length ≤ 1000000 := by
    have := congrArg List.length hnames
    simp only [List.length_map] at this
    have := h.fS.le
    omega
  have hnext : ∀ w1, Below W0.heap.size W0 w1 → w1.cell? ⟨w.heap.size, 0, none⟩ = some (.string ⟨#[]⟩) ∧ w1.cell? ⟨w.heap.size, 1, none⟩ = some (.slice none 0 0) ∧ w1.cell? ⟨w.heap.size, 2, none⟩ = some (.int .i64 0) ∧ w1.frozen? ⟨w.heap.size, 0, none⟩ = false ∧ w1.frozen? ⟨w.heap.size, 1, none⟩ = false ∧ w1.frozen? ⟨w.heap.size, 2, none⟩ = false :=
    fun w1 hb => ⟨(hX.next hb).cell rfl, (hX.next hb).cell rfl, (hX.next hb).cell rfl, (hX.next hb).free 0, (hX.next hb).free 1, (hX.next hb).free 2⟩
  have hnext := hide hnext
  have hend : ∀ w1 A' c', Below W0.heap.size W0 w1 → (∀ S : List Nat, (∀ b ∈ S, b < W0.heap.size) → Ir S w1 A' ty[i].ar) → ∀ F, F = (((w1.setCell ⟨w.heap.size, 0, none⟩ (.string ty[i].nm)).setCell ⟨w.heap.size, 1, none⟩ (.slice A' ty[i].ar.length c')).setCell ⟨w.heap.size, 2, none⟩ (.int .i64 ty[i].rs)) →
      F.cell? ⟨w.heap.size, 0, none⟩ = some (.string ty[i].nm) ∧ F.cell? ⟨w.heap.size, 1, none⟩ = some (.slice A' ty[i].ar.length c') ∧ F.cell? ⟨w.heap.size, 2, none⟩ = some (.int .i64 ty[i].rs) ∧ (∀ S : List Nat, (∀ b ∈ S, b < w.heap.size) → Ir S F A' ty[i].ar) ∧ Below w.heap.size w F := by
    intro w1 A' c' hb hI F hFd
    have hY : Bk w.heap.size #[.string ty[i].nm, .slice A' ty[i].ar.length c', .int .i64 ty[i].rs] 35 F := by
      rw [hFd]; exact (((hX.next hb).set _ rfl).set _ rfl).set _ rfl
    have hO : Off [w.heap.size] w1 F := by
      rw [hFd]; exact (((Off.refl _ _).setCell _ _ (.inl (by simp))).setCell _ _ (.inl (by simp))).setCell _ _ (.inl (by simp))
    have hgl : w.heap.size < W0.heap.size := by rw [hW0]; simp
    refine ⟨hY.cell rfl, hY.cell rfl, hY.cell rfl, fun S hS => (hI (w.heap.size :: S) ?_).off hO (fun b hb => .inl (by simp at hb; simp [hb])) (fun b hb => .inl (List.mem_cons_of_mem _ hb)), ?_⟩
    · intro b hb
      rcases List.mem_cons.1 hb with hb | hb
      · omega
      · exact Nat.lt_of_lt_of_le (hS b hb) hb0.size
    · exact (hb0.trans (hb.mono hb0.size)).trans (hO.below (Nat.le_trans hb0.size hb.size) (by intro b hb; simp at hb; omega))
  have hend := hide hend
  have hW := hide hW0
  generalize ty[i].nm = nm at *
  generalize ty[i].rs = rs at *
  generalize hk : ty[i].ar = ar at *
  clear h h0 hX hb0 hall hrow hF q0 q1 q2 q3 hs hW0 hx hnames hk
  go_enter Try.func18, Try.ntmps18
  go_wp2_with first
    | (go_at_call 41; rw [← hW.out]; (with_reducible refine hplace.mono ?_); rintro e w' ⟨x, rfl, hc, rfl⟩; obtain rfl := hix.out x hc; clear hc)
    | (go_at_call 38; (with_reducible refine hown.mono ?_); rintro e w1 ⟨A', c', rfl, hI, hb1⟩; obtain ⟨d0, d1, d2, f0, f1, f2⟩ := hnext.out _ hb1)
  have E := hend.out w1 A' c' hb1 hI _ rfl
  obtain ⟨c0, c1, c2, hI2, hB2⟩ := E
  obtain ⟨F, hF⟩ : ∃ F, F = (((w1.setCell ⟨w.heap.size, 0, none⟩ (.string nm)).setCell ⟨w.heap.size, 1, none⟩ (.slice A' ar.length c')).setCell ⟨w.heap.size, 2, none⟩ (.int .i64 rs)) := ⟨_, rfl⟩
  rw [← hF] at c0 c1 c2 hI2 hB2 ⊢
  exact bodyPost_ret (v := .tuple #[.agg #[.string nm, .slice A' ar.length c', .int .i64 rs], .bool true]) (by simp [results, Try.results18, go_sem, c0, c1, c2]) rfl ⟨A', c', rfl, hI2, hB2⟩

set_option maxHeartbeats 2000000 in
theorem find_no (p : Nat) (T : List Nat) (N lv : Nat) (so fu : List (ByteArray × Nat)) (ty : List Fn) (s : ByteArray) (w : World) (h : Tb X w p T N lv so fu ty) (hs : s.size ≤ maxLen) (hno : hasB fu s = false) :
    Calls Try.prog 18 #[.pointer (some ⟨p, 0, none⟩), .string s] w fun e w' => e = .returned (.tuple #[.agg #[.string ⟨#[]⟩, .slice none 0 0, .int .i64 0], .bool false]) ∧ Below w.heap.size w w' := by
  obtain ⟨⟨v1, m1, v2, m2, v3, h⟩, hnames⟩ := h
  obtain ⟨W0, hW0⟩ : ∃ W, W = w.alloc (.cells #[.string ⟨#[]⟩, .slice none 0 0, .int .i64 0] 35) := ⟨_, rfl⟩
  have hX : Bk w.heap.size #[.string ⟨#[]⟩, .slice none 0 0, .int .i64 0] 35 W0 := by rw [hW0]; exact Bk.new _ _ _
  have hb0 : Below w.heap.size w W0 := by rw [hW0]; exact (Below.refl _ _).alloc (Nat.le_refl _) _
  have h0 : TbP X W0 p T N lv so fu ty v1 m1 v2 m2 v3 := h.off (S := []) (.of_below hb0 [])
  have hplace := place_any p 3 m2 N fu s W0 (h0.bk.cell rfl) h0.fS.map hs
  rw [hno] at hplace
  have d0 : W0.cell? ⟨w.heap.size, 0, none⟩ = some (.string ⟨#[]⟩) := hX.cell rfl
  have d1 : W0.cell? ⟨w.heap.size, 1, none⟩ = some (.slice none 0 0) := hX.cell rfl
  have d2 : W0.cell? ⟨w.heap.size, 2, none⟩ = some (.int .i64 0) := hX.cell rfl
  have f0 := hX.free 0
  have f1 := hX.free 1
  have f2 := hX.free 2
  have hend : Below w.heap.size w (((W0.setCell ⟨w.heap.size, 0, none⟩ (.string ⟨#[]⟩)).setCell ⟨w.heap.size, 1, none⟩ (.slice none 0 0)).setCell ⟨w.heap.size, 2, none⟩ (.int .i64 0)) := by
    have hO : Off [w.heap.size] W0 (((W0.setCell ⟨w.heap.size, 0, none⟩ (.string ⟨#[]⟩)).setCell ⟨w.heap.size, 1, none⟩ (.slice none 0 0)).setCell ⟨w.heap.size, 2, none⟩ (.int .i64 0)) :=
      (((Off.refl _ _).setCell _ _ (.inl (by simp))).setCell _ _ (.inl (by simp))).setCell _ _ (.inl (by simp))
    exact hb0.trans (hO.below hb0.size (by intro b hb; simp at hb; omega))
  have hend := hide hend
  have hW := hide hW0
  clear h h0 hX hb0 hs hW0 hnames hno
  go_enter Try.func18, Try.ntmps18
  go_wp2_with (go_at_call 41; rw [← hW.out]; (with_reducible refine hplace.mono ?_); rintro e w' ⟨x, rfl, hc, rfl⟩; clear hc)
  exact bodyPost_ret (v := .tuple #[.agg #[.string ⟨#[]⟩, .slice none 0 0, .int .i64 0], .bool false]) (by simp [results, Try.results18, go_sem, d0, d1, d2]) rfl ⟨rfl, hend.out⟩

theorem ecs_get : ∀ (es : List (ByteArray × Nat)) (i : Nat) (hi : i < es.length), (ecs es)[i * 2]? = some (.string es[i].1)
  | e :: es, 0, _ => rfl
  | e :: es, i + 1, hi => by
    have := ecs_get es i (by simpa using hi)
    have e0 : (i + 1) * 2 = i * 2 + 1 + 1 := by omega
    rw [e0]
    unfold ecs at this ⊢
    simpa using this

set_option maxHeartbeats 2000000 in
/-- The name of a sort that was declared. -/
theorem name_yes (p : Nat) (T : List Nat) (N lv : Nat) (so fu : List (ByteArray × Nat)) (ty : List Fn) (w : World) (h : Tb X w p T N lv so fu ty) (hN : N ≤ 1000000) (i : Nat) (hi : i < so.length) :
    Calls Try.prog 23 #[.pointer (some ⟨p, 0, none⟩), .int .i64 ((i : Int) + 2)] w fun e w' => e = .returned (.tuple #[.string so[i].1, .bool true]) ∧ w = w' := by
  obtain ⟨⟨v1, m1, v2, m2, v3, h⟩, hnames⟩ := h
  have hn1 : so.length ≤ 1000000 := Nat.le_trans h.sS.le hN
  have hrow := h.sS.row
  have q0 := ecs_get so i hi
  have hform : ∃ gt cap, v1 = .slice (some ⟨gt, 0, none⟩) so.length cap := by
    rcases hrow.2 with ⟨e, h⟩ | ⟨g, cap, cu, e, _⟩
    · omega
    · exact ⟨_, _, e⟩
  obtain ⟨gt, cap, rfl⟩ := hform
  have r0 := hrow.cells (g := gt) rfl _ _ q0
  rw [Addr.add_lit, Nat.zero_add] at r0
  have y1 : w.cell? ⟨p, 1, none⟩ = some (.slice (some ⟨gt, 0, none⟩) so.length cap) := h.bk.cell rfl
  have hk := known_any p so.length cap (some ⟨gt, 0, none⟩) ((i : Int) + 2) w y1 hn1
  have hkt : knownB so.length ((i : Int) + 2) = true := by
    simp only [knownB, Bool.and_eq_true, decide_eq_true_eq]
    omega
  rw [hkt] at hk
  have n0 : (((i : Int) + 2) == 0) = false := by simp; omega
  have n1 : (((i : Int) + 2) == 1) = false := by simp; omega
  generalize so[i].1 = nm at *
  generalize so.length = n at *
  clear h hrow q0 hkt hnames
  go_enter Try.func23, Try.ntmps23
  go_wp2_with (go_at_call 42; (with_reducible refine hk.mono ?_); rintro e w' ⟨rfl, rfl⟩)
  go_ret2
  exact ⟨rfl, rfl⟩
end Nt
end Go.Proofs.Ytlcgdiciiibeeaa
