/-
  The reference's Fun where it refuses.
-/
import Derived.Test.YtlcgdiciiibeeaaRg
namespace Go.Proofs.Ytlcgdiciiibeeaa
open Go.ChangeShapes Go.RowKit
namespace Nt
set_option maxRecDepth 100000
set_option linter.unusedSimpArgs false
set_option linter.unusedVariables false
def foundB (fs : List Fn) (s : ByteArray) : Bool := fs.any fun f => f.nm.data.toList == s.data.toList
theorem found_first {fs : List Fn} {s : ByteArray} (h : foundB fs s = true) : ∃ i, ∃ hi : i < fs.length, fs[i].nm.data.toList = s.data.toList ∧ ∀ j (h1 : j < i) (h2 : j < fs.length), fs[j].nm.data.toList ≠ s.data.toList := by
  have hlt : fs.findIdx (fun f => f.nm.data.toList == s.data.toList) < fs.length := by
    rw [List.findIdx_lt_length]
    unfold foundB at h
    rw [List.any_eq_true] at h
    exact h
  refine ⟨_, hlt, by simpa using List.findIdx_getElem (w := hlt), fun j h1 h2 e => ?_⟩
  have := List.not_of_lt_findIdx h1
  simp [e] at this
theorem found_none {fs : List Fn} {s : ByteArray} (h : foundB fs s = false) : ∀ j (h2 : j < fs.length), fs[j].nm.data.toList ≠ s.data.toList := by
  intro j hj e
  unfold foundB at h
  rw [List.any_eq_false] at h
  have := h fs[j] (List.getElem_mem hj)
  simp [e] at this
section
variable {Z R : List Nat} {w w' w3 : World} {r : Nat} {nm : List ByteArray} {fs : List Fn} {L : List (Nat × Nat)} {AN : Option Addr} {cN : Nat} {AF : Option Addr} {cF : Nat} {vL : Value}
set_option maxHeartbeats 8000000 in
theorem ref_fun_no1 (h : RfP Z w r R nm fs L AN cN AF cF vL) (hnn : nm.length ≤ 1000) (hfl : fs.length ≤ 1000) (nf : ByteArray) (B : Option Addr) (ar : List Int) (d : Nat) (rs : Int) (hs : nf.size ≤ 9223372036854775807)
    (hf : foundB fs nf = true ∨ nameB nf = false) :
    Calls Try.prog 13 #[.pointer (some ⟨r, 0, none⟩), .agg #[.string nf, .slice B ar.length d, .int .i64 rs]] w fun e w' => e = .returned (.int .i64 1) ∧ Below w.heap.size w w' := by
  obtain ⟨W0, hW0⟩ : ∃ W, W = w.alloc (.cells #[.string nf, .slice B ar.length d, .int .i64 rs] 35) := ⟨_, rfl⟩
  have hX : Bk w.heap.size #[.string nf, .slice B ar.length d, .int .i64 rs] 35 W0 := by rw [hW0]; exact Bk.new _ _ _
  have hb0 : Below w.heap.size w W0 := by rw [hW0]; exact bel_al _ _
  have x0 : W0.cell? ⟨w.heap.size, 0, none⟩ = some (.string nf) := hX.cell rfl
  have hname : ∀ W, Calls Try.prog 36 #[.string nf] W fun e w' => e = .returned (.bool (nameB nf)) ∧ Below W.heap.size W w' := fun W => ref_name nf hs W
  have hkey : ∃ (x : ByteArray) (A : Option Addr) (k : Nat) (rr : Int) (b : Bool), (b = true ∨ nameB nf = false) ∧ Calls Try.prog 19 #[.pointer (some ⟨r, 0, none⟩), .string nf] W0 fun e w' => ∃ A c, e = .returned (.tuple #[.agg #[.string x, .slice A k c, .int .i64 rr], .bool b]) ∧ Below W0.heap.size W0 w' := by
    rcases hfb : foundB fs nf with _ | _
    · rw [hfb] at hf
      simp at hf
      exact ⟨_, none, _, _, _, .inr hf, (ref_find_no (h.next hb0) hfl nf (found_none hfb)).mono fun e w' ⟨he, hb⟩ => ⟨none, 0, he, hb⟩⟩
    · obtain ⟨i, hi, he, hno⟩ := found_first hfb
      exact ⟨_, none, _, _, _, .inl rfl, (ref_find_yes (h.next hb0) hfl nf i hi he hno).mono fun e w' ⟨A, c, he, _, hb⟩ => ⟨A, c, he, hb⟩⟩
  obtain ⟨x, -, kk, rr, fb, hfn, hfind⟩ := hkey
  obtain ⟨nb, hnb⟩ : ∃ b, b = nameB nf := ⟨_, rfl⟩
  rw [← hnb] at hname hfn
  have hgl : w.heap.size < W0.heap.size := hX.lt
  have hk : ∀ w1 A c, Below W0.heap.size W0 w1 → ∀ W, W = w1.alloc (.cells #[.string x, .slice A kk c, .int .i64 rr] 35) → W.cell? ⟨w.heap.size, 0, none⟩ = some (.string nf) ∧ Below w.heap.size w W := by
    intro w1 A c hb1 W hW
    have hb2 : Below w1.heap.size w1 W := by rw [hW]; exact bel_al _ _
    exact ⟨(hX.next (hb1.trans (hb2.mono hb1.size))).cell rfl, (hb0.trans (hb1.mono hb0.size)).trans (hb2.mono (Nat.le_trans hb0.size hb1.size))⟩
  generalize ar.length = m at *
  have hW := hide hW0
  replace hname := hide hname; replace hfind := hide hfind; replace hk := hide hk; replace hnb := hide hnb
  clear h hX hb0 hf hW0
  rcases nb with _ | _
  · clear hfn
    go_enter Try.func13, Try.ntmps13
    go_wp2_with first
      | (go_at_call 19; rw [← hW.out]; (with_reducible refine hfind.out.mono ?_); rintro e w1 ⟨A, c, rfl, hb1⟩; obtain ⟨y0, hbW⟩ := hk.out w1 A c hb1 _ rfl; replace hbW := hide hbW; clear hb1)
      | (go_at_call 36; (with_reducible refine (hname.out _).mono ?_); rintro e w2 ⟨rfl, hb⟩)
    go_ret
    exact ⟨rfl, hbW.out.trans (hb.mono hbW.out.size)⟩
  · obtain rfl : fb = true := by simpa using hfn
    go_enter Try.func13, Try.ntmps13
    go_wp2_with first
      | (go_at_call 19; rw [← hW.out]; (with_reducible refine hfind.out.mono ?_); rintro e w1 ⟨A, c, rfl, hb1⟩; obtain ⟨y0, hbW⟩ := hk.out w1 A c hb1 _ rfl; replace hbW := hide hbW; clear hb1)
      | (go_at_call 36; (with_reducible refine (hname.out _).mono ?_); rintro e w2 ⟨rfl, hb⟩)
    go_ret
    exact ⟨rfl, hbW.out.trans (hb.mono hbW.out.size)⟩

set_option maxHeartbeats 8000000 in
theorem ref_fun_no2 (h : RfP Z w r R nm fs L AN cN AF cF vL) (hnn : nm.length ≤ 1000) (hfl : fs.length ≤ 1000) (nf : ByteArray) (B : Option Addr) (ar : List Int) (d : Nat) (rs : Int) (hi : Ir [] w B ar) (hs : nf.size ≤ 9223372036854775807)
    (hf : nameB nf = true) (hnf : foundB fs nf = false) (ht : typedB nm.length ar rs = false) (hal : ar.length ≤ 1000000) :
    Calls Try.prog 13 #[.pointer (some ⟨r, 0, none⟩), .agg #[.string nf, .slice B ar.length d, .int .i64 rs]] w fun e w' => e = .returned (.int .i64 1) ∧ Below w.heap.size w w' := by
  obtain ⟨W0, hW0⟩ : ∃ W, W = w.alloc (.cells #[.string nf, .slice B ar.length d, .int .i64 rs] 35) := ⟨_, rfl⟩
  have hX : Bk w.heap.size #[.string nf, .slice B ar.length d, .int .i64 rs] 35 W0 := by rw [hW0]; exact Bk.new _ _ _
  have hb0 : Below w.heap.size w W0 := by rw [hW0]; exact bel_al _ _
  have hfind := ref_find_no (h.next hb0) hfl nf (found_none hnf)
  have x0 : W0.cell? ⟨w.heap.size, 0, none⟩ = some (.string nf) := hX.cell rfl
  have hk2 : ∀ W2, Below W0.heap.size W0 W2 → W2.cell? ⟨w.heap.size, 0, none⟩ = some (.string nf) ∧ W2.cell? ⟨w.heap.size, 1, none⟩ = some (.slice B ar.length d) ∧ W2.cell? ⟨w.heap.size, 2, none⟩ = some (.int .i64 rs) ∧ RfP Z W2 r R nm fs L AN cN AF cF vL ∧ Ir [] W2 B ar ∧ Below w.heap.size w W2 := by
    intro W2 hb2
    have hB := hX.next hb2
    have hbw : Below w.heap.size w W2 := hb0.trans (hb2.mono hb0.size)
    exact ⟨hB.cell rfl, hB.cell rfl, hB.cell rfl, h.next hbw, hi.off (Off.of_below hbw []) (by simp) (by simp), hbw⟩
  have hname : ∀ W, Calls Try.prog 36 #[.string nf] W fun e w' => e = .returned (.bool true) ∧ Below W.heap.size W w' := fun W => by
    have := ref_name nf hs W
    rwa [hf] at this
  have his : ∀ W2, RfP Z W2 r R nm fs L AN cN AF cF vL → ∀ x, Calls Try.prog 39 #[.pointer (some ⟨r, 0, none⟩), .int .i64 x] W2 fun e w' => e = .returned (.bool (knownB nm.length x)) ∧ W2 = w' := fun W2 h2 x => ref_is h2 (by omega) x
  obtain ⟨m, hm⟩ : ∃ m, m = ar.length := ⟨_, rfl⟩
  have hargs : ∀ W2, Ir [] W2 B ar → ∀ k (hk : k < ar.length), ∃ b o, B = some ⟨b, o, none⟩ ∧ W2.cell? ⟨b, o + k, none⟩ = some (.int .i64 ar[k]) := by
    intro W2 hI k hk
    rcases hI with e | ⟨b, o, e1, _, _, e4⟩
    · rw [e] at hk; simp at hk
    · refine ⟨b, o, e1, ?_⟩
      rw [e4 k hk]; simp [List.getD, List.getElem?_eq_getElem hk]
  have hcase : ar.length > 64 ∨ (ar.length ≤ 64 ∧ knownB nm.length rs = false) ∨ (ar.length ≤ 64 ∧ knownB nm.length rs = true ∧ ¬ ∀ k (hk : k < ar.length), ar[k] ≠ 0 ∧ knownB nm.length ar[k] = true) := by
    by_cases h1 : ar.length > 64
    · exact .inl h1
    · by_cases h2 : knownB nm.length rs = true
      · refine .inr (.inr ⟨by omega, h2, fun hall => ?_⟩)
        have : typedB nm.length ar rs = true := by
          simp only [typedB, Bool.and_eq_true, decide_eq_true_eq, List.all_eq_true]
          refine ⟨⟨by omega, h2⟩, fun x hx => ?_⟩
          obtain ⟨k, hk, rfl⟩ := List.getElem_of_mem hx
          simp only [argB, Bool.and_eq_true, decide_eq_true_eq]
          exact hall k hk
        rw [this] at ht; cases ht
      · exact .inr (.inl ⟨by omega, by simpa using h2⟩)
  simp only [← hm] at hk2
  rw [← hm] at hW0 hal ⊢
  have hW := hide hW0
  replace hk2 := hide hk2; replace hname := hide hname; replace his := hide his; replace hfind := hide hfind; replace hargs := hide hargs; replace hm := hide hm
  clear h hX hb0 hf hnf ht hi hW0
  rcases hcase with h1 | ⟨h1, h2⟩ | ⟨h1, h2, h3⟩
  · have hmd : 64 < m := by have := hm.out; omega
    have hmd2 : decide (64 < m) = true := decide_eq_true hmd
    clear h1
    go_enter Try.func13, Try.ntmps13
    go_wp2_with first
      | (go_at_call 19; rw [← hW.out]; (with_reducible refine hfind.out.mono ?_); rintro e w1 ⟨rfl, hb1⟩; have y0 := (hk2.out (w1.alloc (.cells #[.string ⟨#[]⟩, .slice none 0 0, .int .i64 0] 35)) (hb1.trans ((bel_al w1 _).mono hb1.size))).1; have hbA : Hid (Below W0.heap.size W0 (w1.alloc (.cells #[.string ⟨#[]⟩, .slice none 0 0, .int .i64 0] 35))) := hide (hb1.trans ((bel_al w1 _).mono hb1.size)); clear hb1)
      | (go_at_call 36; (with_reducible refine (hname.out _).mono ?_); rintro e w2 ⟨rfl, hb⟩; have hb2 := hbA.out.trans (hb.mono hbA.out.size); obtain ⟨x0, x1, x2, hR2, hI2, hbw2⟩ := hk2.out w2 hb2; have his2 := hide (his.out w2 hR2); replace hb2 := hide hb2; replace hR2 := hide hR2; replace hI2 := hide hI2; replace hbw2 := hide hbw2; clear hb y0 hbA)
      | (go_at_call 39; have his4 := his2.out rs; rw [h2.out] at his4; (with_reducible refine his4.mono ?_); rintro e w3 ⟨rfl, rfl⟩; clear his4)
    go_ret
    exact ⟨rfl, hbw2.out⟩
  · have hmd : m ≤ 64 := by have := hm.out; omega
    have hmd2 : decide (64 < m) = false := decide_eq_false (by omega)
    clear h1
    replace h2 := hide h2
    go_enter Try.func13, Try.ntmps13
    go_wp2_with first
      | (go_at_call 19; rw [← hW.out]; (with_reducible refine hfind.out.mono ?_); rintro e w1 ⟨rfl, hb1⟩; have y0 := (hk2.out (w1.alloc (.cells #[.string ⟨#[]⟩, .slice none 0 0, .int .i64 0] 35)) (hb1.trans ((bel_al w1 _).mono hb1.size))).1; have hbA : Hid (Below W0.heap.size W0 (w1.alloc (.cells #[.string ⟨#[]⟩, .slice none 0 0, .int .i64 0] 35))) := hide (hb1.trans ((bel_al w1 _).mono hb1.size)); clear hb1)
      | (go_at_call 36; (with_reducible refine (hname.out _).mono ?_); rintro e w2 ⟨rfl, hb⟩; have hb2 := hbA.out.trans (hb.mono hbA.out.size); obtain ⟨x0, x1, x2, hR2, hI2, hbw2⟩ := hk2.out w2 hb2; have his2 := hide (his.out w2 hR2); replace hb2 := hide hb2; replace hR2 := hide hR2; replace hI2 := hide hI2; replace hbw2 := hide hbw2; clear hb y0 hbA)
      | (go_at_call 39; have his4 := his2.out rs; rw [h2.out] at his4; (with_reducible refine his4.mono ?_); rintro e w3 ⟨rfl, rfl⟩; clear his4)
    go_ret
    exact ⟨rfl, hbw2.out⟩
  · have hmd : m ≤ 64 := by have := hm.out; omega
    have hmd2 : decide (64 < m) = false := decide_eq_false (by omega)
    replace h2 := hide h2; replace h3 := hide h3
    clear h1
    go_enter Try.func13, Try.ntmps13
    go_wp2_with first
      | (go_at_call 19; rw [← hW.out]; (with_reducible refine hfind.out.mono ?_); rintro e w1 ⟨rfl, hb1⟩; have y0 := (hk2.out (w1.alloc (.cells #[.string ⟨#[]⟩, .slice none 0 0, .int .i64 0] 35)) (hb1.trans ((bel_al w1 _).mono hb1.size))).1; have hbA : Hid (Below W0.heap.size W0 (w1.alloc (.cells #[.string ⟨#[]⟩, .slice none 0 0, .int .i64 0] 35))) := hide (hb1.trans ((bel_al w1 _).mono hb1.size)); clear hb1)
      | (go_at_call 36; (with_reducible refine (hname.out _).mono ?_); rintro e w2 ⟨rfl, hb⟩; have hb2 := hbA.out.trans (hb.mono hbA.out.size); obtain ⟨x0, x1, x2, hR2, hI2, hbw2⟩ := hk2.out w2 hb2; have his2 := hide (his.out w2 hR2); replace hb2 := hide hb2; replace hR2 := hide hR2; replace hI2 := hide hI2; replace hbw2 := hide hbw2; clear hb y0 hbA)
      | (go_at_call 39; have his4 := his2.out rs; rw [h2.out] at his4; (with_reducible refine his4.mono ?_); rintro e w3 ⟨rfl, rfl⟩; clear his4)
    go_loop [7] (fun i => ∃ k : Nat, k ≤ m ∧ i = .int .i64 (k : Int) ∧ ∀ j (_ : j < k) (hk : j < ar.length), ar[j] ≠ 0 ∧ knownB nm.length ar[j] = true) (fun i => m - (intOf i).toNat)
    case atStart => exact ⟨0, Nat.zero_le _, rfl, fun j hj => by omega⟩
    case round =>
      obtain ⟨k, hk, rfl, hpre⟩ := hrel
      by_cases hkm : k < m
      · have hkl : k < ar.length := by rw [← hm.out]; exact hkm
        obtain ⟨b, o, rfl, c0⟩ := hargs.out w2 hI2.out k hkl
        have his3 := his2.out ar[k]
        by_cases hg : ar[k] ≠ 0 ∧ knownB nm.length ar[k] = true
        · obtain ⟨hx0, hxk⟩ := hg
          rw [hxk] at his3
          have hxz : (ar[k] == 0) = false := beq_eq_false_iff_ne.2 hx0
          have hpre2 := hide (show ∀ j (_ : j < k + 1) (hk : j < ar.length), ar[j] ≠ 0 ∧ knownB nm.length ar[j] = true from fun j hj hk => by
            by_cases e : j = k
            · subst e; exact ⟨hx0, hxk⟩
            · exact hpre j (by omega) hk)
          clear hx0 hxk hpre
          generalize ar[k] = x at *
          go_wp2_with (go_at_call 39; (with_reducible refine his3.mono ?_); rintro e w3 ⟨rfl, rfl⟩)
          go_round
          case rel => exact ⟨k + 1, by omega, by go_num, hpre2.out⟩
          case measure => simp [intOf]; omega
        · by_cases hx0 : ar[k] = 0
          · clear hpre hg his3
            rw [hx0] at c0
            replace hx0 := hide hx0
            go_wp2
            go_ret
            exact ⟨rfl, hbw2.out⟩
          · have hxk : knownB nm.length ar[k] = false := by
              cases hb : knownB nm.length ar[k] with
              | false => rfl
              | true => exact absurd ⟨hx0, hb⟩ hg
            rw [hxk] at his3
            have hxz : (ar[k] == 0) = false := beq_eq_false_iff_ne.2 hx0
            clear hx0 hxk hpre hg
            generalize ar[k] = x at *
            go_wp2_with (go_at_call 39; (with_reducible refine his3.mono ?_); rintro e w3 ⟨rfl, rfl⟩)
            go_ret
            exact ⟨rfl, hbw2.out⟩
      · exact absurd (fun j hj => hpre j (by have := hm.out; omega) hj) h3.out
end
end Nt
end Go.Proofs.Ytlcgdiciiibeeaa
