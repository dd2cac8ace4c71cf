
/-
  slices.Clone at []uint64; nat.divideWord on a row of the call's own; nat.divide, nat.DivMod (the division by two limbs or more is handed in).
-/
import Derived.Test.YtgimmmmpollkhaaGreatNDivW
import Derived.Test.YtgimmmmpollkhaaGreatNSub
namespace Go.Proofs.YtgimmmmpollkhaaGreat

open Go.RowKit

namespace Nt

theorem Row.pos {w : World} {base n c : Nat} {A : Option Addr} {xs : List Nat} (h : Row w base A n c xs) (hn : 0 < n) : ∃ g, A = some ⟨g, 0, none⟩ ∧ Own w base g c xs := by
  have hl := h.len
  rcases h.form with ⟨_, rfl⟩ | ⟨g, rfl, ho⟩
  · simp at hl; omega
  · exact ⟨g, rfl, ho⟩

set_option maxRecDepth 100000 in
set_option maxHeartbeats 400000 in
theorem clone_any (A : Option Addr) (n c : Nat) (xs : List Nat) (w : World) (hn : xs.length = n) (hs : Sl w A xs) (hl : n ≤ 100000) :
    Calls Tryz.prog 95 #[.slice A n c] w (Mk w xs) := by
  rcases A with _ | ad
  · have hx : xs = [] := by
      rcases hs with h | ⟨_, _, h, _⟩
      · exact h
      · cases h
    subst hx
    refine (Tryz.slices_Clone_nil n c w).mono fun e w' ⟨h1, h2⟩ => ?_
    subst h1 h2
    exact Mk.intro (Row.nil _ _) (.refl _ _) rfl
  · have heq : ∀ W, (binOp .eql 23 (.slice (some ad) n c) (.slice none 0 0)).run Tryz.prog W = .ok (.bool false) W := fun W => by
      have := Lib.run_eql_slice_nil (P := Tryz.prog) W 23 119 (some ad) n c 0 0 Tryz.underlying23
      simpa using this
    have HN := hide hn
    clear hn
    go_enter Tryz.func95, Tryz.ntmps95
    go_wp2_with (at_builtin; refine app_any _ rfl (.tmp 5) (.tmp 6) rfl w.heap.size 0 0 n c (some ⟨w.heap.size, 0, none⟩) (some ad) [] xs rfl (Row.empty (Nat.le_refl _)) rfl (hs.alloc _) HN.out (by omega) (by simp) ?_; intro A' c' w1 hr1 hg1)
    go_ret
    exact Mk.intro (by simpa using hr1) (((Below.refl _ _).alloc (Nat.le_refl _) _).grown hg1 (by simp) (Row.empty (Nat.le_refl _)).ownBlock) rfl

set_option maxRecDepth 100000 in
set_option maxHeartbeats 400000 in
theorem dword_own (base g cap d n : Nat) (xs : List Nat) (w : World) (hn : xs.length = n) (h : Own w base g cap xs) (lx : Limbs xs) (hd : 0 < d) (hdL : d < LB) (hl : n ≤ 100000) :
    Calls Tryz.prog 148 #[.slice (some ⟨g, 0, none⟩) n cap, .int .u64 (d : Int)] w fun e w' => e = .returned (.int .u64 ((dwR xs d : Nat) : Int)) ∧ Own w' base g cap (dwQ xs d) ∧ Wrote w w' g 0 n := by
  have H := hide hn
  clear hn
  go_enter Tryz.func148, Tryz.ntmps148
  go_wp2
  go_loopw [4, 5] (fun re i wr => ∃ k : Nat, k ≤ n ∧ i = .int .i64 ((k : Int) - 1) ∧ re = .int .u64 ((dwR (xs.drop k) d : Nat) : Int) ∧ Own wr base g cap (xs.take k ++ dwQ (xs.drop k) d) ∧ Wrote w wr g 0 n) (fun _ i _ => (intOf i + 1).toNat)
  case atStart =>
    have e1 : xs.drop n = [] := List.drop_of_length_le (by rw [H.out]; exact Nat.le_refl _)
    have e2 : xs.take n = xs := List.take_of_length_le (by rw [H.out]; exact Nat.le_refl _)
    exact ⟨n, Nat.le_refl _, rfl, by rw [e1]; rfl, by rw [e1, e2, dwQ, List.append_nil]; exact h, Wrote.refl _ _ _ _⟩
  case round =>
    obtain ⟨k, hk, rfl, rfl, ha, hw⟩ := hrel
    cases k with
    | zero =>
      have R := hide ha
      have W := hide hw
      clear ha hw
      go_wp2
      go_ret
      refine ⟨rfl, ?_, W.out⟩
      have := R.out
      rwa [List.take_zero, List.nil_append, List.drop_zero] at this
    | succ k =>
      have hkl : k < xs.length := by rw [H.out]; omega
      have hcell := ha.cell (j := k) (by rw [List.length_append, List.length_take, dwQ_len, List.length_drop]; omega)
      have hfr := ha.frozen k
      have hst := ha.set k (dvQ (dwR (xs.drop (k + 1)) d) (lim xs k) d)
      rw [dw_set hkl] at hst
      rw [dw_lim hkl] at hcell
      have S := hide hst
      have W := hide hw
      have D := hide (fun W => div64 (dwR (xs.drop (k + 1)) d) (lim xs k) d (dwR_lt _ hd) hdL (lx.get k) W)
      have E := hide (show dwR (xs.drop k) d = dvR (dwR (xs.drop (k + 1)) d) (lim xs k) d by rw [drop_cons_lim hkl]; rfl)
      clear hst ha hw h
      generalize dwR (xs.drop (k + 1)) d = re at *
      generalize lim xs k = x at *
      go_wp2_with (go_at_call 151; (with_reducible refine (D.out _).mono ?_); rintro ee w2 ⟨rfl, q0, rfl⟩)
      go_roundw
      case rel => exact ⟨k, by omega, by go_num, by rw [E.out], S.out, (W.out.setCell (by omega) _).drewN _⟩
      case measure => simp [intOf]

def Two2 (w : World) (q r : List Nat) (e : Ending) (w' : World) : Prop := ∃ A n c B m d, e = .returned (.tuple #[.slice A n c, .slice B m d]) ∧ Row w' w.heap.size A n c q ∧ Row w' w.heap.size B m d r ∧ Below w.heap.size w w'
theorem Two2.mk {w w' : World} {q r q' r' : List Nat} {A B : Option Addr} {n c m d : Nat} (hq : Row w' w.heap.size A n c q') (hr : Row w' w.heap.size B m d r') (hb : Below w.heap.size w w') (e1 : q = q') (e2 : r = r') : Two2 w q r (.returned (.tuple #[.slice A n c, .slice B m d])) w' := by
  subst e1 e2
  exact ⟨_, _, _, _, _, _, rfl, hq, hr, hb⟩
theorem Own.trimRow {w : World} {base g cap : Nat} {xs : List Nat} (h : Own w base g cap xs) : Row w base (some ⟨g, 0, none⟩) (trimz xs).length cap (trimz xs) := by
  have := h.take (trimz xs).length
  rw [trimz_prefix] at this
  exact this.row rfl
theorem Row.litW {base : Nat} (w : World) (x : Nat) (hb : base ≤ w.heap.size) : Own (w.alloc (.cells #[.int .u64 (x : Int)] 119)) base w.heap.size 1 [x] :=
  Own.mk (cur := #[lv x]) hb (heap_alloc_new w _) (Nat.le_refl _) (by simp only [maxLen]; omega) rfl rfl
theorem digs_word {x : Nat} (hx : x < LB) : digs x = trimz [x] := by
  rw [← digs_val (Limbs.one hx), val_one]

theorem trim1 (A : Option Addr) (c x : Nat) (w : World) (hs : Sl w A [x]) (hc : 1 ≤ c) :
    Calls Tryz.prog 149 #[.slice A 1 c] w fun e w' => e = .returned (.slice A (trimz [x]).length c) ∧ w = w' := trim_n A 1 c [x] w rfl hs hc (by omega)

def LongOk (xs ys : List Nat) : Prop := ∀ (A B : Option Addr) (c d : Nat) (w : World), Sl w A xs → Sl w B ys →
  Calls Tryz.prog 150 #[.slice A xs.length c, .slice B ys.length d] w (Two2 w (digs (val xs / val ys)) (digs (val xs % val ys)))

set_option maxRecDepth 100000 in
set_option maxHeartbeats 1000000 in
theorem divide_any (A B : Option Addr) (c d : Nat) (xs ys : List Nat) (w : World) (hx : Sl w A xs) (hy : Sl w B ys) (lx : Limbs xs) (ly : Limbs ys) (nx : Norm xs) (ny : Norm ys)
    (hl : xs.length ≤ 10000) (hl' : ys.length ≤ 10000) (hp : 0 < ys.length) (HL : 2 ≤ ys.length → val ys ≤ val xs → LongOk xs ys) :
    Calls Tryz.prog 128 #[.slice A xs.length c, .slice B ys.length d] w (Two2 w (digs (val xs / val ys)) (digs (val xs % val ys))) := by
  have C := hide (lcmp_any A B c d xs ys w hx hy lx ly nx ny (by omega) (by omega))
  by_cases hlt : val xs < val ys
  · rw [cmpN_lt hlt] at C
    have E1 := hide (show digs (val xs / val ys) = [] by rw [Nat.div_eq_of_lt hlt, digs_zero])
    have E2 := hide (show digs (val xs % val ys) = xs by rw [Nat.mod_eq_of_lt hlt]; exact digs_val_norm lx nx)
    have K := hide (fun q => clone_any A xs.length c xs (w.drewN q) rfl hx (by omega))
    clear hlt nx ny
    go_enter Tryz.func128, Tryz.ntmps128
    go_wp2_with (first
      | (go_at_call 125; (with_reducible refine (C.out).mono ?_); rintro e w1 ⟨rfl, q0, rfl⟩)
      | (go_at_call 95; (with_reducible refine (K.out _).mono ?_); rintro e w2 ⟨A2, c2, rfl, hr2, hb2⟩))
    go_ret2
    exact Two2.mk (Row.nil _ _) hr2 ((Below.drewN' (.refl _ _) _).trans hb2) E1.out E2.out
  · have hle : val ys ≤ val xs := by omega
    have hz : 0 ≤ cmpN (val xs) (val ys) := by
      unfold cmpN
      rw [if_neg hlt]
      split <;> omega
    have hxp : 0 < xs.length := by have := len_le_of_val lx ny hle; omega
    by_cases h1 : ys.length = 1
    · have hyv : ys = [lim ys 0] := by
        cases ys with
        | nil => simp at h1
        | cons y t =>
          have : t = [] := List.eq_nil_of_length_eq_zero (by simpa using h1)
          subst this; rfl
      have hyd : val ys = lim ys 0 := by
        have := congrArg val hyv
        rwa [val_one] at this
      have hy0 : 0 < lim ys 0 := by
        have h2 := le_val ny (by intro e; rw [e] at h1; simp at h1)
        rw [h1] at h2
        simp at h2
        omega
      have hyL := ly.get 0
      obtain ⟨b, o, rfl, hb⟩ := hy.at_ hp
      have hbc := hb.cell (j := 0) hp
      rw [Nat.add_zero] at hbc
      obtain ⟨dw1, dw2⟩ := dw_val (xs := xs) hy0
      have lq := dwQ_limbs (d := lim ys 0) hy0 lx
      have E1 := hide (show digs (val xs / val ys) = trimz (dwQ xs (lim ys 0)) by rw [hyd, ← dw1]; exact digs_val lq)
      have E2 := hide (show digs (val xs % val ys) = trimz [dwR xs (lim ys 0)] by
        rw [hyd, ← dw2]
        exact digs_word (Nat.lt_trans (dwR_lt xs hy0) hyL))
      have HB := hide hb
      have hblt := hb.lt
      have DL := hide (dwQ_len xs (lim ys 0))
      have KK := hide (fun q => clone_any A xs.length c xs (w.drewN q) rfl hx (by omega))
      have DW := hide (fun base g cap W (h : Own W base g cap xs) => dword_own base g cap (lim ys 0) xs.length xs W rfl h lx hy0 hyL (by omega))
      rw [h1] at C ⊢
      clear hlt nx ny hle HL hb hy hyv hyd hy0 hyL dw1 dw2 lq
      generalize lim ys 0 = y at *
      generalize cmpN (val xs) (val ys) = z at *
      go_enter Tryz.func128, Tryz.ntmps128
      go_wp2_with (first
        | (go_at_call 125; (with_reducible refine (C.out).mono ?_); rintro e w1 ⟨rfl, q0, rfl⟩)
        | (go_at_call 95; (with_reducible refine (KK.out _).mono ?_); rintro e w2 ⟨A2, c2, rfl, hr2, hb2⟩; obtain ⟨g, rfl, ho2⟩ := hr2.pos hxp; have hbc2 := (World.cell?_of_block (a := ⟨b, o, none⟩) (hb2.block b hblt)).trans hbc; have HO2 := hide ho2; clear ho2 hr2)
        | (go_at_call 148; (with_reducible refine (DW.out _ _ _ _ HO2.out).mono ?_); rintro ee w3 ⟨rfl, ho3, hw3⟩; have HO3 := hide ho3; clear ho3)
        | (go_at_call 149; (with_reducible refine (trim_n _ _ _ (dwQ xs y) _ DL.out (HO3.out.alloc _).sl (by have := HO3.out.le; rw [DL.out] at this; exact this) (by omega)).mono ?_); rintro ee w5 ⟨rfl, rfl⟩)
        | (go_at_call 149; (with_reducible refine (trim1 _ _ (dwR xs y) _ (Row.litW w3 _ (Nat.le_refl _)).sl (Nat.le_refl _)).mono ?_); rintro ee w6 ⟨rfl, rfl⟩))
      go_ret2
      have hbw : Below w.heap.size w w3 := ((Below.drewN' (.refl _ _) _).trans hb2).trans (hw3.below HO2.out.base_le hb2.size)
      exact Two2.mk (HO3.out.alloc _).trimRow ((Row.litW w3 _ hbw.size).trimRow) (hbw.alloc hbw.size _) E1.out E2.out
    · have LG := hide (fun q => HL (by omega) hle A B c d (w.drewN q) hx hy)
      have h1' : ((ys.length : Int) == 1) = false := by simp; omega
      clear hlt nx ny hle HL h1
      generalize cmpN (val xs) (val ys) = z at *
      go_enter Tryz.func128, Tryz.ntmps128
      go_wp2_with (first
        | (go_at_call 125; (with_reducible refine (C.out).mono ?_); rintro e w1 ⟨rfl, q0, rfl⟩)
        | (go_at_call 150; (with_reducible refine (LG.out _).mono ?_); rintro e w2 ⟨A2, n2, c2, B2, m2, d2, rfl, hq2, hr2, hb2⟩))
      go_ret2
      exact Two2.mk hq2 hr2 ((Below.drewN' (.refl _ _) _).trans hb2) rfl rfl

def Three (w : World) (r : List Nat × List Nat × Nat) (e : Ending) (w' : World) : Prop := ∃ v u, e = .returned (.tuple #[v, u, .int .i64 (r.2.2 : Int)]) ∧ Res w' v r.1 ∧ Res w' u r.2.1 ∧ Below w.heap.size w w'
theorem Three.mk {w w' : World} {r : List Nat × List Nat × Nat} {v u : Value} {l m : List Nat} {e : Nat} (hr : r = (l, m, e)) (hR : Res w' v l) (hS : Res w' u m) (hb : Below w.heap.size w w') : Three w r (.returned (.tuple #[v, u, .int .i64 (e : Int)])) w' := by
  subst hr; exact ⟨v, u, rfl, hR, hS, hb⟩
end Nt

end Go.Proofs.YtgimmmmpollkhaaGreat
