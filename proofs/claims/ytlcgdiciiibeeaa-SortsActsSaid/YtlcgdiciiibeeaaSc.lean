/-
  The law SortsFuns.
-/
import Derived.Test.YtlcgdiciiibeeaaSb
namespace Go.Proofs.Ytlcgdiciiibeeaa
open Go.ChangeShapes Go.RowKit
namespace Nt
set_option maxRecDepth 100000
set_option linter.unusedSimpArgs false
set_option linter.unusedVariables false

/-- What stands at the head of a round. -/
def FunRel (B h p : Nat) (w : World) (ks : List Nat) (j : Nat) (wr : World) : Prop :=
  ks.Nodup ∧ (∀ x ∈ ks, x < 26) ∧ ks.length ≤ j ∧ Tw [h] B w wr p ks.length 0 [] (fuK ks) (tyK ks) ∧ Bk h (haveC ks) 62 wr

theorem fun_step {B h p : Nat} {w : World} {ks : List Nat} {j : Nat} {wr : World} (hr : FunRel B h p w ks j wr) (hB : B ≤ h) (hj : j ≤ 20) (k : Nat) (hk : k < 26) :
    Calls Try.prog 12 #[.pointer (some ⟨p, 0, none⟩), .agg #[.string (nmK k), .slice (some ⟨wr.heap.size + 1, 0, none⟩) 1 1, .int .i64 ((k % 2 : Nat) : Int)]] ((wr.alloc (.cells #[.int .u8 (97 + (k : Int))] 5)).alloc (.cells #[.int .i64 1] 3)) fun e w' =>
      e = .returned (.int .i64 (if ks.contains k then 1 else 0)) ∧ w'.cell? ⟨h, k, none⟩ = some (.bool (ks.contains k)) ∧ w'.frozen? ⟨h, k, none⟩ = false ∧ FunRel B h p w (if ks.contains k then ks else ks ++ [k]) (j + 1) (w'.setCell ⟨h, k, none⟩ (.bool true)) := by
  obtain ⟨h1, h2, h3, h4, h5⟩ := hr
  obtain ⟨W, hW⟩ : ∃ W, W = ((wr.alloc (.cells #[.int .u8 (97 + (k : Int))] 5)).alloc (.cells #[.int .i64 1] 3)) := ⟨_, rfl⟩
  rw [← hW]
  have hbW : Below wr.heap.size wr W := by rw [hW]; exact ((Below.refl _ _).alloc (Nat.le_refl _) _).alloc (by simp) _
  have hlt := h4.lt (b := h) (by simp)
  have t : Tw [wr.heap.size + 1, h] B w W p ks.length 0 [] (fuK ks) (tyK ks) := h4.turn hbW (fun b hb => by
    have hz : W.heap.size = wr.heap.size + 2 := by rw [hW]; simp
    simp only [List.mem_cons, List.not_mem_nil, or_false] at hb
    rcases hb with rfl | rfl
    · exact ⟨.inr (by omega), by omega⟩
    · exact ⟨.inl (by simp), by omega⟩)
  have hX : Bk (wr.heap.size + 1) #[.int .i64 1] 3 W := by rw [hW]; exact Bk.new1 _ _ _ _
  have hA : Ar [wr.heap.size + 1, h] W (some ⟨wr.heap.size + 1, 0, none⟩) [1] := .inr ⟨_, 0, rfl, by simp, fun j hj => by
    match j, hj with
    | 0, _ => exact hX.cell rfl
    | j + 1, h => simp at h⟩
  have h5W : Bk h (haveC ks) 62 W := h5.next hbW
  have hns : (nmK k).size ≤ maxLen := small_name (nmK_size k) (by omega)
  cases hc : ks.contains k
  · refine (tw_fun t (nmK k) _ [1] 1 ((k % 2 : Nat) : Int) hA (by rw [free_K h2 hk, hc]; rfl) (typed_K k) hns (by omega) (by unfold fuK; rw [List.length_map]; omega)).mono fun e w' ⟨he, t2, hs⟩ => ?_
    have hB2 : Bk h (haveC ks) 62 w' := hs.bk h5W (by simp)
    refine ⟨he, by rw [← hc]; exact hB2.cell (haveC_get ks hk), hB2.free k, ?_, ?_, ?_, ?_, ?_⟩
    · rw [if_neg (by simp), List.nodup_append]
      refine ⟨h1, by simp, fun a ha b hb e => ?_⟩
      simp at hb
      subst hb e
      simp [ha] at hc
    · rw [if_neg (by simp)]
      intro x hx
      rcases List.mem_append.1 hx with hx | hx
      · exact h2 x hx
      · simp at hx; omega
    · rw [if_neg (by simp)]; simp; omega
    · rw [if_neg (by simp), List.length_append, fuK_snoc, tyK_snoc]
      exact (t2.less (by simp)).setCell _ _ (by simp) hB
    · rw [if_neg (by simp), haveC_set ks hk]
      exact hB2.set _ rfl
  · refine (tw_fun_no t (nmK k) _ [1] 1 ((k % 2 : Nat) : Int) hA (by rw [free_K h2 hk, hc]; rfl) hns (by omega) (by simp)).mono fun e w' ⟨he, hb⟩ => ?_
    have hB2 : Bk h (haveC ks) 62 w' := h5W.next hb
    refine ⟨he, by rw [← hc]; exact hB2.cell (haveC_get ks hk), hB2.free k, ?_, ?_, ?_, ?_, ?_⟩
    · rw [if_pos rfl]; exact h1
    · rw [if_pos rfl]; exact h2
    · rw [if_pos rfl]; omega
    · rw [if_pos rfl]
      exact ((t.next hb).less (by simp)).setCell _ _ (by simp) hB
    · rw [if_pos rfl, haveC_same ks hk hc]
      exact hB2.set _ rfl

theorem ir_new1 (W : World) (x : Int) (T : List Nat) (hT : ∀ b ∈ T, b < W.heap.size) : Ir T (W.alloc (.cells #[.int .i64 x] 3)) (some ⟨W.heap.size, 0, none⟩) [x] := by
  have hX := Bk.new #[.int .i64 x] 3 W
  refine .inr ⟨_, 0, rfl, hX.lt, fun hm => Nat.lt_irrefl _ (hT _ hm), fun j hj => ?_⟩
  match j, hj with
  | 0, _ => exact hX.cell rfl
  | j + 1, h => simp at h
theorem ir_new1d (W : World) (x : Int) (T : List Nat) (hT : ∀ b ∈ T, b < W.heap.size) : Ir T (W.alloc (.cells #[.int .i64 x] 3)).drew (some ⟨W.heap.size, 0, none⟩) [x] := ir_new1 W x T hT
theorem ir_new2d (W : World) (o : Obj) (x : Int) : Ir [] ((W.alloc o).alloc (.cells #[.int .i64 x] 3)).drew (some ⟨W.heap.size + 1, 0, none⟩) [x] := by
  have := ir_new1 (W.alloc o) x [] (by simp)
  rwa [show (W.alloc o).heap.size = W.heap.size + 1 by simp] at this
theorem ints_one (A B : Option Addr) (c d : Nat) (W : World) (hx : Ir [] W A [1]) (hy : Ir [] W B [1]) :
    Calls Try.prog 32 #[.slice A 1 c, .slice B 1 d] W fun e w' => e = .returned (.bool true) ∧ Below W.heap.size W w' :=
  (ints_any A B [1] [1] c d [] [] W hx hy (by simp) (by simp)).mono fun e w' ⟨he, q, hq⟩ => ⟨he, by rw [hq]; exact ((Off.refl [] W).drewN q).below (Nat.le_refl _) (by simp)⟩
theorem S26 {g a : Nat} {nm : ByteArray} {A : Option Addr} {c : Nat} {r : Int} {w2 W W' : World} (h : W.cell? ⟨g, a, none⟩ = some (.string nm) ∧ W.cell? ⟨g, a + 1, none⟩ = some (.slice A 1 c) ∧ W.cell? ⟨g, a + 2, none⟩ = some (.int .i64 r) ∧ Ir [] W A [1] ∧ Below w2.heap.size w2 W) (hb : Below W.heap.size W W') :
    W'.cell? ⟨g, a, none⟩ = some (.string nm) ∧ W'.cell? ⟨g, a + 1, none⟩ = some (.slice A 1 c) ∧ W'.cell? ⟨g, a + 2, none⟩ = some (.int .i64 r) ∧ Ir [] W' A [1] ∧ Below w2.heap.size w2 W' := by
  obtain ⟨h1, h2, h3, h4, h5⟩ := h
  have hO := Off.of_below hb []
  exact ⟨hO.cell h1 (cell_in h1) (by simp), hO.cell h2 (cell_in h2) (by simp), hO.cell h3 (cell_in h3) (by simp), h4.off hO (by simp) (by simp), h5.trans (hb.mono h5.size)⟩
theorem bel_drew (W : World) : Below W.heap.size W W.drew := ((Off.refl [] W).drew).below (Nat.le_refl _) (by simp)
theorem bel_al (W : World) (o : Obj) : Below W.heap.size W (W.alloc o) := (Below.refl _ _).alloc (Nat.le_refl _) o

set_option maxHeartbeats 4000000 in
theorem funs_near (A : Option Addr) (xs : List Int) (c : Nat) (w : World) (hi : Ir [] w A xs) (hl : xs.length ≤ 20) :
    Calls Try.prog 6 #[.slice A xs.length c] w fun e w' => e = .returned (.bool true) ∧ Below w.heap.size w w' := by
  obtain ⟨B, hB⟩ : ∃ B, B = w.heap.size := ⟨_, rfl⟩
  have c0 : Calls Try.prog 9 #[] w fun e w' => e = .returned (.pointer (some ⟨w.heap.size, 0, none⟩)) ∧ Tw [] B w w' w.heap.size 0 0 [] [] [] ∧ Below w.heap.size w w' :=
    tw_new (X := []) (by omega) (by rw [hB]; exact .refl _ _) (by simp)
  have hrd : ∀ wr, Below B w wr → ∀ j (hj : j < xs.length), ∃ b o, A = some ⟨b, o, none⟩ ∧ wr.cell? ⟨b, o + j, none⟩ = some (.int .i64 xs[j]) := by
    intro wr hb j hj
    rcases hi with h | ⟨b, o, h1, h2, _, h3⟩
    · rw [h] at hj; simp at hj
    · have := hb.cell (p := ⟨b, o + j, none⟩) (by rw [hB]; exact h2)
      rw [h3 j hj] at this
      exact ⟨b, o, h1, by rw [this]; simp [List.getD, List.getElem?_eq_getElem hj]⟩
  have hBs : Hid (B = w.heap.size) := hide hB
  generalize w.heap.size = p at c0 hB ⊢
  have hstart : ∀ w1, Tw [] B w w1 p 0 0 [] [] [] → FunRel B w1.heap.size p w [] 0 (w1.alloc (.cells (haveC []) 62)) ∧ B ≤ w1.heap.size := fun w1 h => ⟨⟨by simp, by simp, by simp, h.alloc _, Bk.new _ _ _⟩, h.base⟩
  have haveE : haveC [] = #[.bool false, .bool false, .bool false, .bool false, .bool false, .bool false, .bool false, .bool false, .bool false, .bool false, .bool false, .bool false, .bool false, .bool false, .bool false, .bool false, .bool false, .bool false, .bool false, .bool false, .bool false, .bool false, .bool false, .bool false, .bool false, .bool false] := by rfl
  rw [haveE] at hstart
  replace hstart := hide hstart
  replace hB := hide hB; replace c0 := hide c0; replace hrd := hide hrd
  clear hi haveE
  obtain ⟨n, hn⟩ : ∃ n, n = xs.length := ⟨_, rfl⟩
  rw [← hn] at hl ⊢
  replace hn := hide hn
  go_enter Try.func6, Try.ntmps6
  go_wp2_with (go_at_call 9; (with_reducible refine c0.out.mono ?_); rintro e w1 ⟨rfl, t1, -⟩)
  obtain ⟨hrel0, hBh⟩ := hstart.out _ t1
  clear t1
  generalize w1.heap.size = h at *
  go_loopw [5, 6] (fun m i wr => ∃ j : Nat, ∃ ks : List Nat, j ≤ n ∧ m = .int .i64 (ks.length : Int) ∧ i = .int .i64 (j : Int) ∧ FunRel B h p w ks j wr) (fun _ i _ => n - (intOf i).toNat)
  case atStart => exact ⟨0, [], Nat.zero_le _, rfl, rfl, hrel0⟩
  case round =>
    obtain ⟨j, ks, hj, rfl, rfl, hR⟩ := hrel
    by_cases hjn : j < n
    · obtain ⟨b, o, rfl, r0⟩ := hrd.out _ hR.2.2.2.1.below j (by rw [← hn.out]; exact hjn)
      obtain ⟨k, hk1, hk2⟩ : ∃ k : Nat, xs[j]'(by rw [← hn.out]; exact hjn) % 26 = (k : Int) ∧ k < 26 := ⟨(xs[j]'(by rw [← hn.out]; exact hjn) % 26).toNat, by omega, by omega⟩
      have hround := round_any (xs[j]'(by rw [← hn.out]; exact hjn)) 26 (by omega) (by omega) wr
      rw [show ((26 : Nat) : Int) = 26 from rfl, hk1] at hround
      generalize xs[j]'(by rw [← hn.out]; exact hjn) = x at *
      have hst := fun_step hR hBh (by omega) k hk2
      have hkl : ks.length ≤ 20 := by have := hR.2.2.1; omega
      have hrem := i64_remS 3 k 2 (by omega)
      have hkc := kc_letter wr k (by omega)
      rw [show ((k % 2 : Nat) : Int) = (k : Int) % 2 by omega] at hst
      replace hst := hide hst
      clear hk1 hR
      obtain ⟨m, hm⟩ : ∃ m, m = ks.length := ⟨_, rfl⟩
      rw [← hm] at hkl ⊢
      replace hm := hide hm
      cases hc : ks.contains k
      · rw [hc] at hst
        simp only [Bool.false_eq_true, if_false] at hst
        replace hc := hide hc
        go_wp2_with first
          | (go_at_call 31; (with_reducible refine hround.mono ?_); rintro e w2 ⟨rfl, rfl⟩)
          | (go_at_call 12; (with_reducible refine hst.out.mono ?_); rintro e w3 ⟨rfl, x0, x1, hR2⟩)
        go_roundw
        all_goals (try simp only [Array.getD_eq_getD_getElem?, List.getElem?_toArray, List.getElem?_cons_succ, List.getElem?_cons_zero, Option.getD_some])
        case rel => exact ⟨j + 1, ks ++ [k], by omega, by rw [List.length_append, ← hm.out]; go_num, by go_num, hR2⟩
        case measure => simp [intOf]; omega
      · rw [hc] at hst
        simp only [if_true] at hst
        replace hc := hide hc
        go_wp2_with first
          | (go_at_call 31; (with_reducible refine hround.mono ?_); rintro e w2 ⟨rfl, rfl⟩)
          | (go_at_call 12; (with_reducible refine hst.out.mono ?_); rintro e w3 ⟨rfl, x0, x1, hR2⟩)
        go_roundw
        all_goals (try simp only [Array.getD_eq_getD_getElem?, List.getElem?_toArray, List.getElem?_cons_succ, List.getElem?_cons_zero, Option.getD_some])
        case rel => exact ⟨j + 1, ks, by omega, by rw [← hm.out], by go_num, hR2⟩
        case measure => simp [intOf]; omega
    · have hg3 : decide (j < n) = false := decide_eq_false hjn
      obtain ⟨m, hm⟩ : ∃ m, m = ks.length := ⟨_, rfl⟩
      have hkl : m ≤ 20 := by have := hR.2.2.1; omega
      have hfl : (tyK ks).length = m := by unfold tyK; rw [List.length_map, hm]
      obtain ⟨h1, h2, h3, t2, hBk⟩ := hR
      have hfuns := tw_funs t2 (by omega)
      rw [hfl] at hfuns
      have hlt := t2.lt (b := h) (by simp)
      have hfacts : ∀ w2 g l, l.Perm (tyK ks) → l.Pairwise (fun f h => ¬ h.nm.data.toList < f.nm.data.toList) → FunsAt w2 g l → Below wr.heap.size wr w2 → Below B w w2 ∧ ∀ wx, Below w2.heap.size w2 wx → ∀ k, k < 26 → wx.cell? ⟨h, k, none⟩ = some (.bool (ks.contains k)) ∧
          (ks.contains k = true → ∃ A c, wx.cell? ⟨g, cnt ks k * 3, none⟩ = some (.string (nmK k)) ∧ wx.cell? ⟨g, cnt ks k * 3 + 1, none⟩ = some (.slice A 1 c) ∧ wx.cell? ⟨g, cnt ks k * 3 + 2, none⟩ = some (.int .i64 ((k : Int) % 2)) ∧ Ir [] wx A [1] ∧ cnt ks k < m) := by
        intro w2 g l hp hs hF hb
        refine ⟨t2.below.trans (hb.mono t2.base), fun wx hbx k hk => ⟨(((hBk.next hb).next hbx).cell (haveC_get ks hk)), fun hc => ?_⟩⟩
        have hl := funs_K h1 h2 hp hs
        obtain ⟨q1, q2⟩ := srt_at ks hk hc
        have hll : l.length = (srt ks).length := by rw [hl, List.length_map]
        have hq : l[cnt ks k]'(by omega) = fnK k := by
          have : l[cnt ks k]? = some (fnK k) := by rw [hl, List.getElem?_map, List.getElem?_eq_getElem q1, q2]; rfl
          rw [List.getElem?_eq_getElem (by omega)] at this
          injection this
        obtain ⟨A', c', r0, r1, r2, r3, _⟩ := hF.next hbx (cnt ks k) (by omega)
        rw [hq] at r0 r1 r2 r3
        refine ⟨A', c', r0, r1, ?_, r3, ?_⟩
        · rw [r2]; simp [fnK]
        · have := (srt_perm h1 h2).length_eq
          omega
      rw [← hm]
      replace hm := hide hm
      replace hfacts := hide hfacts
      clear h1 h2 h3 hBk hfl t2 hlt
      go_wp2_with (go_at_call 25; (with_reducible refine hfuns.mono ?_); rintro e w2 ⟨g, c2, rfl, -, ⟨l, hp, hs, hF⟩, hb⟩; obtain ⟨hbw, hrd2⟩ := hfacts.out w2 g l hp hs hF hb; clear hp hs hF hb)
      replace hrd2 := hide hrd2
      replace hbw := hide hbw
      have ha := fun w => awake6 w
      replace ha := hide ha
      go_loopw [10, 11] (fun a i wx => ∃ k : Nat, k ≤ 26 ∧ a = .int .i64 (cnt ks k : Int) ∧ i = .int .i64 (k : Int) ∧ Below w2.heap.size w2 wx) (fun _ i _ => 26 - (intOf i).toNat)
      case atStart => exact ⟨0, by omega, rfl, rfl, .refl _ _⟩
      case round =>
        obtain ⟨k, hk, rfl, rfl, hbx⟩ := hrel
        by_cases hk26 : k < 26
        · obtain ⟨x0, hx1⟩ := hrd2.out _ hbx k hk26
          have hcs := cnt_succ ks k
          have hcl := cnt_le ks k
          cases hc : ks.contains k
          · rw [hc] at x0 hcs
            simp only [Bool.false_eq_true, if_false, Nat.add_zero] at hcs
            clear hx1
            replace hc := hide hc
            replace hcs := hide hcs
            go_wp2
            go_roundw
            all_goals (try simp only [Array.getD_eq_getD_getElem?, List.getElem?_toArray, List.getElem?_cons_succ, List.getElem?_cons_zero, Option.getD_some])
            case rel => exact ⟨k + 1, by omega, by rw [hcs.out], by go_num, hbx⟩
            case measure => simp [intOf]; omega
          · obtain ⟨A', c', y0, y1, y2, y3, y4⟩ := hx1 hc
            rw [hc] at x0 hcs
            simp only [if_true] at hcs
            clear hx1
            replace hc := hide hc
            replace hcs := hide hcs
            generalize cnt ks k = at_ at *
            have hkc : (convert 59 9 (.slice (some ⟨wr.heap.size, 0, none⟩) 1 1)).run Try.prog (wr.drew.alloc (.cells #[.int .u8 (97 + (k : Int))] 5)) = .ok (.string (nmK k)) (wr.drew.alloc (.cells #[.int .u8 (97 + (k : Int))] 5)) := kc_letter wr.drew k (by omega)
            have hkc2 : (convert 59 9 (.slice (some ⟨wr.heap.size, 0, none⟩) 1 1)).run Try.prog (wr.alloc (.cells #[.int .u8 (97 + (k : Int))] 5)).drew = .ok (.string (nmK k)) (wr.alloc (.cells #[.int .u8 (97 + (k : Int))] 5)).drew := kc_letter wr.drew k (by omega)
            have hw1 : IntKind.i64.wrap (97 + (k : Int)) = 97 + (k : Int) := IntWalk.i64_in _ ⟨by omega, by omega⟩
            have hw2 : IntKind.u8.wrap (97 + (k : Int)) = 97 + (k : Int) := by simp [IntKind.wrap, IntKind.bits, IntKind.signed]; omega
            have hrem : binOp .rem 3 (.int .i64 (k : Int)) (.int .i64 2) = pure (.int .i64 ((k : Int) % 2)) := by
              have := i64_remS 3 k 2 (by omega)
              rw [show ((k % 2 : Nat) : Int) = (k : Int) % 2 by omega] at this
              exact this
            have hneq : binOp .neq 9 (.string (nmK k)) (.string (nmK k)) = pure (.bool false) := by rw [binOp_string_neq]; simp
            have hSd := hide (S26 (g := g) (a := at_ * 3) (nm := nmK k) (A := A') (c := c') (r := (k : Int) % 2) (w2 := w2) ⟨y0, y1, y2, y3, hbx⟩ (bel_drew wr))
            go_wp2
            refine wp_region_held_drew (S := (fun W => W.cell? ⟨g, at_ * 3, none⟩ = some (.string (nmK k)) ∧ W.cell? ⟨g, at_ * 3 + 1, none⟩ = some (.slice A' 1 c') ∧ W.cell? ⟨g, at_ * 3 + 2, none⟩ = some (.int .i64 ((k : Int) % 2)) ∧ Ir [] W A' [1] ∧ Below w2.heap.size w2 W)) (by kernel_rfl) ?_ (fun hHeld => ?_)
            · (try dsimp only)
              exact hSd.out
            refine wpAnyH_take (i := 0) (v := ?vvr0) (by (simp only [List.getElem?_toArray, List.getElem?_cons_zero, List.getElem?_cons_succ]) <;> rfl) (by kernel_rfl) (by kernel_rfl) (by kernel_rfl) ?hqr0 (Or.inl ⟨by rfl, ?hyr0⟩) (by assumption) ?_
            case hqr0 => exact fun _ _ _ h => h
            case hyr0 => ((intro w hSw; (try dsimp only at hSw); go_simp) <;> (with_reducible rfl))
            (try simp only [Act.put, List.setIfInBounds_toArray, List.set_cons_zero, List.set_cons_succ])
            refine wpAnyH_take (i := 1) (v := ?vvr1) (by (simp only [List.getElem?_toArray, List.getElem?_cons_zero, List.getElem?_cons_succ]) <;> rfl) (by kernel_rfl) (by kernel_rfl) (by kernel_rfl) ?hqr1 (Or.inl ⟨by rfl, ?hyr1⟩) (by assumption) ?_
            case hqr1 => exact fun _ _ _ h => h
            case hyr1 => ((intro w hSw; (try dsimp only at hSw); go_simp) <;> (with_reducible rfl))
            (try simp only [Act.put, List.setIfInBounds_toArray, List.set_cons_zero, List.set_cons_succ])
            refine wpAnyH_take (i := 2) (v := ?vvr2) (by (simp only [List.getElem?_toArray, List.getElem?_cons_zero, List.getElem?_cons_succ]) <;> rfl) (by kernel_rfl) (by kernel_rfl) (by kernel_rfl) ?hqr2 (Or.inl ⟨by rfl, ?hyr2⟩) (by assumption) ?_
            case hqr2 => exact fun _ _ _ h => h
            case hyr2 => ((intro w hSw; (try dsimp only at hSw); go_simp) <;> (with_reducible rfl))
            (try simp only [Act.put, List.setIfInBounds_toArray, List.set_cons_zero, List.set_cons_succ])
            refine wpAnyH_take (i := 3) (v := ?vvr3) (by (simp only [List.getElem?_toArray, List.getElem?_cons_zero, List.getElem?_cons_succ]) <;> rfl) (by kernel_rfl) (by kernel_rfl) (by kernel_rfl) ?hqr3 (Or.inl ⟨by rfl, ?hyr3⟩) (by assumption) ?_
            case hqr3 => exact fun _ _ _ h => h
            case hyr3 => ((intro w hSw; (try dsimp only at hSw); go_simp) <;> (with_reducible rfl))
            (try simp only [Act.put, List.setIfInBounds_toArray, List.set_cons_zero, List.set_cons_succ])
            refine wpAnyH_take (i := 4) (v := ?vvr4) (by (simp only [List.getElem?_toArray, List.getElem?_cons_zero, List.getElem?_cons_succ]) <;> rfl) (by kernel_rfl) (by kernel_rfl) (by kernel_rfl) ?hqr4 (Or.inl ⟨by rfl, ?hyr4⟩) (by assumption) ?_
            case hqr4 => exact fun _ _ _ h => h
            case hyr4 => ((intro w hSw; (try dsimp only at hSw); go_simp) <;> (with_reducible rfl))
            (try simp only [Act.put, List.setIfInBounds_toArray, List.set_cons_zero, List.set_cons_succ])
            refine wpAnyH_take (i := 5) (v := ?vvr5) (by (simp only [List.getElem?_toArray, List.getElem?_cons_zero, List.getElem?_cons_succ]) <;> rfl) (by kernel_rfl) (by kernel_rfl) (by kernel_rfl) ?hqr5 (Or.inl ⟨by rfl, ?hyr5⟩) (by assumption) ?_
            case hqr5 => exact fun _ _ _ h => h
            case hyr5 => ((intro w hSw; (try dsimp only at hSw); go_simp) <;> (with_reducible rfl))
            (try simp only [Act.put, List.setIfInBounds_toArray, List.set_cons_zero, List.set_cons_succ])
            refine wpAnyH_take (i := 6) (v := ?vvr6) (by (simp only [List.getElem?_toArray, List.getElem?_cons_zero, List.getElem?_cons_succ]) <;> rfl) (by kernel_rfl) (by kernel_rfl) (by kernel_rfl) ?hqr6 (Or.inl ⟨by rfl, ?hyr6⟩) (by assumption) ?_
            case hqr6 => exact fun _ _ _ h => h
            case hyr6 => ((intro w hSw; (try dsimp only at hSw); go_simp) <;> (with_reducible rfl))
            (try simp only [Act.put, List.setIfInBounds_toArray, List.set_cons_zero, List.set_cons_succ])
            refine wpAnyH_take (i := 7) (v := ?vvr7) (by (simp only [List.getElem?_toArray, List.getElem?_cons_zero, List.getElem?_cons_succ]) <;> rfl) (by kernel_rfl) (by kernel_rfl) (by kernel_rfl) ?hqr7 (Or.inl ⟨by rfl, ?hyr7⟩) (by assumption) ?_
            case hqr7 => exact fun _ _ _ h => h
            case hyr7 => ((intro w hSw; (try dsimp only at hSw); go_simp) <;> (with_reducible rfl))
            (try simp only [Act.put, List.setIfInBounds_toArray, List.set_cons_zero, List.set_cons_succ])
            refine wpAnyH_ready (rs := [8]) (by kernel_rfl) (by simp) ?_
            refine AllReadyH.cons (by (simp only [List.getElem?_toArray, List.getElem?_cons_zero, List.getElem?_cons_succ]) <;> rfl) (fun K hK => ?_) AllReadyH.nil
            go_simp
            refine hK.out _ _ ?_ (fun hHeld => ?_)
            · (try dsimp only)
              (first | exact S26 (by assumption) (bel_al _ _) | exact S26 (by assumption) hb | assumption)
            (try clear hK K)
            (try simp only [Act.put, List.setIfInBounds_toArray, List.set_cons_zero, List.set_cons_succ])
            refine wpAnyH_ready (rs := [9]) (by kernel_rfl) (by simp) ?_
            refine AllReadyH.cons (by (simp only [List.getElem?_toArray, List.getElem?_cons_zero, List.getElem?_cons_succ]) <;> rfl) (fun K hK => ?_) AllReadyH.nil
            go_simp
            refine hK.out _ _ ?_ (fun hHeld => ?_)
            · (try dsimp only)
              (first | exact S26 (by assumption) (bel_al _ _) | exact S26 (by assumption) hb | assumption)
            (try clear hK K)
            (try simp only [Act.put, List.setIfInBounds_toArray, List.set_cons_zero, List.set_cons_succ])
            refine wpAnyH_take (i := 10) (v := ?vvr10) (by (simp only [List.getElem?_toArray, List.getElem?_cons_zero, List.getElem?_cons_succ]) <;> rfl) (by kernel_rfl) (by kernel_rfl) (by kernel_rfl) ?hqr10 (Or.inl ⟨by rfl, ?hyr10⟩) (by assumption) ?_
            case hqr10 => exact fun _ _ _ h => h
            case hyr10 => ((intro w hSw; (try dsimp only at hSw); go_simp) <;> (with_reducible rfl))
            (try simp only [Act.put, List.setIfInBounds_toArray, List.set_cons_zero, List.set_cons_succ])
            refine wpAnyH_take (i := 11) (v := ?vvr11) (by (simp only [List.getElem?_toArray, List.getElem?_cons_zero, List.getElem?_cons_succ]) <;> rfl) (by kernel_rfl) (by kernel_rfl) (by kernel_rfl) ?hqr11 (Or.inl ⟨by rfl, ?hyr11⟩) (by assumption) ?_
            case hqr11 => exact fun _ _ _ h => h
            case hyr11 => ((intro w hSw; (try dsimp only at hSw); go_simp) <;> (with_reducible rfl))
            (try simp only [Act.put, List.setIfInBounds_toArray, List.set_cons_zero, List.set_cons_succ])
            refine wpAnyH_take (i := 12) (v := ?vvr12) (by (simp only [List.getElem?_toArray, List.getElem?_cons_zero, List.getElem?_cons_succ]) <;> rfl) (by kernel_rfl) (by kernel_rfl) (by kernel_rfl) ?hqr12 (Or.inl ⟨by rfl, ?hyr12⟩) (by assumption) ?_
            case hqr12 => exact fun _ _ _ h => h
            case hyr12 => ((intro w hSw; (try dsimp only at hSw); go_simp) <;> (with_reducible rfl))
            (try simp only [Act.put, List.setIfInBounds_toArray, List.set_cons_zero, List.set_cons_succ])
            refine wpAnyH_take (i := 13) (v := ?vvr13) (by (simp only [List.getElem?_toArray, List.getElem?_cons_zero, List.getElem?_cons_succ]) <;> rfl) (by kernel_rfl) (by kernel_rfl) (by kernel_rfl) ?hqr13 (Or.inl ⟨by rfl, ?hyr13⟩) (by assumption) ?_
            case hqr13 => exact fun _ _ _ h => h
            case hyr13 => ((intro w hSw; (try dsimp only at hSw); go_simp) <;> (with_reducible rfl))
            (try simp only [Act.put, List.setIfInBounds_toArray, List.set_cons_zero, List.set_cons_succ])
            refine wpAnyH_take (i := 14) (v := ?vvr14) (by (simp only [List.getElem?_toArray, List.getElem?_cons_zero, List.getElem?_cons_succ]) <;> rfl) (by kernel_rfl) (by kernel_rfl) (by kernel_rfl) ?hqr14 (Or.inl ⟨by rfl, ?hyr14⟩) (by assumption) ?_
            case hqr14 => exact fun _ _ _ h => h
            case hyr14 => ((intro w hSw; (try dsimp only at hSw); go_simp) <;> (with_reducible rfl))
            (try simp only [Act.put, List.setIfInBounds_toArray, List.set_cons_zero, List.set_cons_succ])
            refine wpAnyH_take (i := 15) (v := ?vvr15) (by (simp only [List.getElem?_toArray, List.getElem?_cons_zero, List.getElem?_cons_succ]) <;> rfl) (by kernel_rfl) (by kernel_rfl) (by kernel_rfl) ?hqr15 (Or.inl ⟨by rfl, ?hyr15⟩) (by assumption) ?_
            case hqr15 => exact fun _ _ _ h => h
            case hyr15 => ((intro w hSw; (try dsimp only at hSw); go_simp) <;> (with_reducible rfl))
            (try simp only [Act.put, List.setIfInBounds_toArray, List.set_cons_zero, List.set_cons_succ])
            refine wpAnyH_take (i := 16) (v := ?vvr16) (by (simp only [List.getElem?_toArray, List.getElem?_cons_zero, List.getElem?_cons_succ]) <;> rfl) (by kernel_rfl) (by kernel_rfl) (by kernel_rfl) ?hqr16 (Or.inl ⟨by rfl, ?hyr16⟩) (by assumption) ?_
            case hqr16 => exact fun _ _ _ h => h
            case hyr16 => ((intro w hSw; (try dsimp only at hSw); go_simp) <;> (with_reducible rfl))
            (try simp only [Act.put, List.setIfInBounds_toArray, List.set_cons_zero, List.set_cons_succ])
            refine wpAnyH_take (i := 17) (v := ?vvr17) (by (simp only [List.getElem?_toArray, List.getElem?_cons_zero, List.getElem?_cons_succ]) <;> rfl) (by kernel_rfl) (by kernel_rfl) (by kernel_rfl) ?hqr17 (Or.inl ⟨by rfl, ?hyr17⟩) (by assumption) ?_
            case hqr17 => exact fun _ _ _ h => h
            case hyr17 => ((intro w hSw; (try dsimp only at hSw); go_simp) <;> (with_reducible rfl))
            (try simp only [Act.put, List.setIfInBounds_toArray, List.set_cons_zero, List.set_cons_succ])
            refine wpAnyH_take (i := 18) (v := ?vvr18) (by (simp only [List.getElem?_toArray, List.getElem?_cons_zero, List.getElem?_cons_succ]) <;> rfl) (by kernel_rfl) (by kernel_rfl) (by kernel_rfl) ?hqr18 (Or.inl ⟨by rfl, ?hyr18⟩) (by assumption) ?_
            case hqr18 => exact fun _ _ _ h => h
            case hyr18 => ((intro w hSw; (try dsimp only at hSw); go_simp) <;> (with_reducible rfl))
            (try simp only [Act.put, List.setIfInBounds_toArray, List.set_cons_zero, List.set_cons_succ])
            refine wpAnyH_take (i := 19) (v := ?vvr19) (by (simp only [List.getElem?_toArray, List.getElem?_cons_zero, List.getElem?_cons_succ]) <;> rfl) (by kernel_rfl) (by kernel_rfl) (by kernel_rfl) ?hqr19 (Or.inl ⟨by rfl, ?hyr19⟩) (by assumption) ?_
            case hqr19 => exact fun _ _ _ h => h
            case hyr19 => ((intro w hSw; (try dsimp only at hSw); go_simp) <;> (with_reducible rfl))
            (try simp only [Act.put, List.setIfInBounds_toArray, List.set_cons_zero, List.set_cons_succ])
            refine wpAnyH_take (i := 20) (v := ?vvr20) (by (simp only [List.getElem?_toArray, List.getElem?_cons_zero, List.getElem?_cons_succ]) <;> rfl) (by kernel_rfl) (by kernel_rfl) (by kernel_rfl) ?hqr20 (Or.inl ⟨by rfl, ?hyr20⟩) (by assumption) ?_
            case hqr20 => exact fun _ _ _ h => h
            case hyr20 => ((intro w hSw; (try dsimp only at hSw); go_simp) <;> (with_reducible rfl))
            (try simp only [Act.put, List.setIfInBounds_toArray, List.set_cons_zero, List.set_cons_succ])
            refine wpAnyH_take (i := 21) (v := ?vvr21) (by (simp only [List.getElem?_toArray, List.getElem?_cons_zero, List.getElem?_cons_succ]) <;> rfl) (by kernel_rfl) (by kernel_rfl) (by kernel_rfl) ?hqr21 (Or.inl ⟨by rfl, ?hyr21⟩) (by assumption) ?_
            case hqr21 => exact fun _ _ _ h => h
            case hyr21 => ((intro w hSw; (try dsimp only at hSw); go_simp) <;> (with_reducible rfl))
            (try simp only [Act.put, List.setIfInBounds_toArray, List.set_cons_zero, List.set_cons_succ])
            refine wpAnyH_take (i := 22) (v := ?vvr22) (by (simp only [List.getElem?_toArray, List.getElem?_cons_zero, List.getElem?_cons_succ]) <;> rfl) (by kernel_rfl) (by kernel_rfl) (by kernel_rfl) ?hqr22 (Or.inl ⟨by rfl, ?hyr22⟩) (by assumption) ?_
            case hqr22 => exact fun _ _ _ h => h
            case hyr22 => ((intro w hSw; (try dsimp only at hSw); go_simp) <;> (with_reducible rfl))
            (try simp only [Act.put, List.setIfInBounds_toArray, List.set_cons_zero, List.set_cons_succ])
            refine wpAnyH_take (i := 23) (v := ?vvr23) (by (simp only [List.getElem?_toArray, List.getElem?_cons_zero, List.getElem?_cons_succ]) <;> rfl) (by kernel_rfl) (by kernel_rfl) (by kernel_rfl) ?hqr23 (Or.inl ⟨by rfl, ?hyr23⟩) (by assumption) ?_
            case hqr23 => exact fun _ _ _ h => h
            case hyr23 => ((intro w hSw; (try dsimp only at hSw); go_simp) <;> (with_reducible rfl))
            (try simp only [Act.put, List.setIfInBounds_toArray, List.set_cons_zero, List.set_cons_succ])
            refine wpAnyH_take (i := 24) (v := ?vvr24) (by (simp only [List.getElem?_toArray, List.getElem?_cons_zero, List.getElem?_cons_succ]) <;> rfl) (by kernel_rfl) (by kernel_rfl) (by kernel_rfl) ?hqr24 (Or.inl ⟨by rfl, ?hyr24⟩) (by assumption) ?_
            case hqr24 => exact fun _ _ _ h => h
            case hyr24 => ((intro w hSw; (try dsimp only at hSw); go_simp) <;> (with_reducible rfl))
            (try simp only [Act.put, List.setIfInBounds_toArray, List.set_cons_zero, List.set_cons_succ])
            refine wpAnyH_take (i := 25) (v := ?vvr25) (by (simp only [List.getElem?_toArray, List.getElem?_cons_zero, List.getElem?_cons_succ]) <;> rfl) (by kernel_rfl) (by kernel_rfl) (by kernel_rfl) ?hqr25 (Or.inl ⟨by rfl, ?hyr25⟩) (by assumption) ?_
            case hqr25 => exact fun _ _ _ h => h
            case hyr25 => ((intro w hSw; (try dsimp only at hSw); go_simp) <;> (with_reducible rfl))
            (try simp only [Act.put, List.setIfInBounds_toArray, List.set_cons_zero, List.set_cons_succ])
            refine wpAnyH_take (i := 26) (v := ?vvr26) (by (simp only [List.getElem?_toArray, List.getElem?_cons_zero, List.getElem?_cons_succ]) <;> rfl) (by kernel_rfl) (by kernel_rfl) (by kernel_rfl) ?hqr26 (Or.inl ⟨by rfl, ?hyr26⟩) (by assumption) ?_
            case hqr26 => exact fun _ _ _ h => h
            case hyr26 => ((intro w hSw; (try dsimp only at hSw); go_simp) <;> (with_reducible rfl))
            (try simp only [Act.put, List.setIfInBounds_toArray, List.set_cons_zero, List.set_cons_succ])
            refine wpAnyH_ready (rs := [27]) (by kernel_rfl) (by simp) ?_
            refine AllReadyH.cons (by (simp only [List.getElem?_toArray, List.getElem?_cons_zero, List.getElem?_cons_succ]) <;> rfl) (fun K hK => ?_) AllReadyH.nil
            go_simp
            refine hK.out _ _ ?_ (fun hHeld => ?_)
            · (try dsimp only)
              (first | exact S26 (by assumption) (bel_al _ _) | exact S26 (by assumption) hb | assumption)
            (try clear hK K)
            (try simp only [Act.put, List.setIfInBounds_toArray, List.set_cons_zero, List.set_cons_succ])
            refine wpAnyH_ready (rs := [28]) (by kernel_rfl) (by simp) ?_
            refine AllReadyH.cons (by (simp only [List.getElem?_toArray, List.getElem?_cons_zero, List.getElem?_cons_succ]) <;> rfl) (fun K hK => ?_) AllReadyH.nil
            go_simp
            go_at_call 32; (with_reducible refine (ints_one _ _ _ _ _ hHeld.2.2.2.1 (by first | exact ir_new1 _ _ [] (by simp) | exact ir_new1d _ _ [] (by simp) | exact ir_new2d _ _ _)).mono ?_); rintro e w5 ⟨rfl, hb⟩
            (try go_wp2_with fail)
            refine hK.out _ _ ?_ (fun hHeld => ?_)
            · (try dsimp only)
              (first | exact S26 (by assumption) (bel_al _ _) | exact S26 (by assumption) hb | assumption)
            (try clear hK K)
            (try simp only [Act.put, List.setIfInBounds_toArray, List.set_cons_zero, List.set_cons_succ])
            refine wpAnyH_take (i := 29) (v := ?vvr29) (by (simp only [List.getElem?_toArray, List.getElem?_cons_zero, List.getElem?_cons_succ]) <;> rfl) (by kernel_rfl) (by kernel_rfl) (by kernel_rfl) ?hqr29 (Or.inl ⟨by rfl, ?hyr29⟩) (by assumption) ?_
            case hqr29 => exact fun _ _ _ h => h
            case hyr29 => ((intro w hSw; (try dsimp only at hSw); go_simp) <;> (with_reducible rfl))
            (try simp only [Act.put, List.setIfInBounds_toArray, List.set_cons_zero, List.set_cons_succ])
            refine wpAnyH_take (i := 30) (v := ?vvr30) (by (simp only [List.getElem?_toArray, List.getElem?_cons_zero, List.getElem?_cons_succ]) <;> rfl) (by kernel_rfl) (by kernel_rfl) (by kernel_rfl) ?hqr30 (Or.inl ⟨by rfl, ?hyr30⟩) (by assumption) ?_
            case hqr30 => exact fun _ _ _ h => h
            case hyr30 => ((intro w hSw; (try dsimp only at hSw); go_simp) <;> (with_reducible rfl))
            (try simp only [Act.put, List.setIfInBounds_toArray, List.set_cons_zero, List.set_cons_succ])
            refine wpAnyH_done (by kernel_rfl) ?_ _
            have hbx2 := hHeld.2.2.2.2
            (try clear hHeld)
            go_wp2
            go_roundw
            all_goals (try simp only [Array.getD_eq_getD_getElem?, List.getElem?_toArray, List.getElem?_cons_succ, List.getElem?_cons_zero, Option.getD_some])
            case rel => exact ⟨k + 1, by omega, by rw [hcs.out]; go_num, by go_num, hbx2⟩
            case measure => simp [intOf]; omega
        · have hg4 : decide (k < 26) = false := decide_eq_false hk26
          go_wp2_with (go_at_call 8; (with_reducible refine (ha.out _).mono ?_); rintro e w6 ⟨rfl, hb6⟩)
          go_ret
          have hB1 := hB.out
          have hB2 : B ≤ w2.heap.size := by have := hbw.out.size; have h3 := hBs.out; omega
          exact ⟨rfl, by rw [← hB1]; exact (hbw.out.trans (hbx.mono hB2)).trans (hb6.mono (Nat.le_trans hB2 hbx.size))⟩

theorem funs_law (A : Option Addr) (xs : List Int) (c : Nat) (w : World) (hi : Ir [] w A xs) (hl : xs.length ≤ maxLen) :
    Calls Try.prog 6 #[.slice A xs.length c] w fun e w' => e = .returned (.bool true) ∧ Below w.heap.size w w' := by
  by_cases h : xs.length ≤ 20
  · exact funs_near A xs c w hi h
  · have ha := awake6 w
    have hl2 : xs.length ≤ 9223372036854775807 := by unfold maxLen at hl; omega
    have h20 : 20 < xs.length := by omega
    clear h hl hi
    generalize xs.length = n at *
    go_enter Try.func6, Try.ntmps6
    go_wp2_with (go_at_call 8; (with_reducible refine ha.mono ?_); rintro e w1 ⟨rfl, hb⟩)
    go_ret
    exact ⟨rfl, hb⟩
end Nt
end Go.Proofs.Ytlcgdiciiibeeaa
