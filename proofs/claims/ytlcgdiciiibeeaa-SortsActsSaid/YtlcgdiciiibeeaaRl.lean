/-
  The law of acts: what holds between two acts.
-/
import Derived.Test.YtlcgdiciiibeeaaRk
import Derived.Test.YtlcgdiciiibeeaaTz
namespace Go.Proofs.Ytlcgdiciiibeeaa
open Go.ChangeShapes Go.RowKit
namespace Nt
set_option maxRecDepth 100000
set_option linter.unusedSimpArgs false
set_option linter.unusedVariables false
structure Ac where
  kd : Int
  nm : ByteArray
  f : Fn
  n : Int
/-- A row of acts, below B. -/
def AcAt (B : Nat) (w : World) (b o j : Nat) (a : Ac) : Prop := ∃ A c, w.cell? ⟨b, o + j * 6, none⟩ = some (.int .i64 a.kd) ∧ w.cell? ⟨b, o + j * 6 + 1, none⟩ = some (.string a.nm) ∧ w.cell? ⟨b, o + j * 6 + 2, none⟩ = some (.string a.f.nm) ∧ w.cell? ⟨b, o + j * 6 + 3, none⟩ = some (.slice A a.f.ar.length c) ∧ w.cell? ⟨b, o + j * 6 + 4, none⟩ = some (.int .i64 a.f.rs) ∧ w.cell? ⟨b, o + j * 6 + 5, none⟩ = some (.int .i64 a.n) ∧ Ib B w A a.f.ar ∧ (A = none → c = 0)
def Av (B : Nat) (w : World) (A : Option Addr) (l : List Ac) : Prop := ∀ j (h : j < l.length), ∃ b o, A = some ⟨b, o, none⟩ ∧ b < B ∧ AcAt B w b o j l[j]
def goodB (a : Ac) : Bool := decide (a.nm.size ≤ 300) && decide (a.f.nm.size ≤ 300) && decide (a.f.ar.length ≤ 70)
def fewB (l : List Ac) : Bool := decide (l.length ≤ 40) && l.all goodB
theorem Av.next {B : Nat} {w w' : World} {A : Option Addr} {l : List Ac} (h : Av B w A l) (hb : Below B w w') : Av B w' A l := by
  intro j hj
  obtain ⟨b, o, h1, h2, A', c, q0, q1, q2, q3, q4, q5, q6, q7⟩ := h j hj
  have hc : ∀ {k v}, w.cell? ⟨b, k, none⟩ = some v → w'.cell? ⟨b, k, none⟩ = some v := fun {k v} hh => by
    unfold World.cell? at hh ⊢
    rw [hb.block b h2]
    exact hh
  refine ⟨b, o, h1, h2, A', c, hc q0, hc q1, hc q2, hc q3, hc q4, hc q5, ?_, q7⟩
  rcases q6 with q6 | ⟨b', o', z1, z2, z3⟩
  · exact .inl q6
  · refine .inr ⟨b', o', z1, z2, fun j hj => ?_⟩
    have := z3 j hj
    unfold World.cell? at this ⊢
    rw [hb.block b' z2]
    exact this

set_option maxHeartbeats 4000000 in
theorem few_any {B : Nat} (A : Option Addr) (l : List Ac) (c : Nat) (w : World) (h : Av B w A l) (hl : l.length ≤ maxLen) (hsz : ∀ a ∈ l, a.nm.size ≤ maxLen ∧ a.f.nm.size ≤ maxLen ∧ a.f.ar.length ≤ maxLen) :
    Calls Try.prog 7 #[.slice A l.length c] w fun e w' => e = .returned (.bool (fewB l)) ∧ w = w' := by
  have hbad : ∀ k (hk : k < l.length), goodB l[k] = false → fewB l = false := fun k hk hg => by
    have : l.all goodB = false := by rw [List.all_eq_false]; exact ⟨l[k], List.getElem_mem hk, by simp [hg]⟩
    simp [fewB, this]
  have hgood : (∀ k (hk : k < l.length), goodB l[k] = true) → fewB l = decide (l.length ≤ 40) := fun hg => by
    have : l.all goodB = true := by
      rw [List.all_eq_true]; intro a ha
      obtain ⟨k, hk, rfl⟩ := List.getElem_of_mem ha
      exact hg k hk
    simp [fewB, this]
  have hbig : 40 < l.length → fewB l = false := fun hh => by
    have : decide (l.length ≤ 40) = false := decide_eq_false (by omega)
    simp [fewB, this]
  have hl2 : l.length ≤ 9223372036854775807 := by unfold maxLen at hl; omega
  have hsz2 : ∀ k (hk : k < l.length), l[k].nm.size ≤ 9223372036854775807 ∧ l[k].f.nm.size ≤ 9223372036854775807 ∧ l[k].f.ar.length ≤ 9223372036854775807 := fun k hk => by
    have := hsz l[k] (List.getElem_mem hk)
    unfold maxLen at this
    omega
  obtain ⟨r, hr⟩ : ∃ r, r = fewB l := ⟨_, rfl⟩
  rw [← hr] at hbad hgood hbig ⊢
  obtain ⟨n, hn⟩ : ∃ n, n = l.length := ⟨_, rfl⟩
  simp only [← hn] at hgood hbig
  rw [← hn] at hl2 ⊢
  replace hbad := hide hbad; replace hgood := hide hgood; replace hbig := hide hbig; replace hn := hide hn; replace h := hide h; replace hsz2 := hide hsz2
  clear hr hl hsz
  go_enter Try.func7, Try.ntmps7
  go_wp2
  go_loop [3] (fun i => ∃ k : Nat, k ≤ n ∧ k ≤ 50 ∧ i = .int .i64 (k : Int) ∧ ∀ j (_ : j < k) (hj : j < l.length), goodB l[j] = true) (fun i => n - (intOf i).toNat)
  case atStart => exact ⟨0, Nat.zero_le _, by omega, rfl, fun j hj => by omega⟩
  case round =>
    obtain ⟨k, hk, hk50, rfl, hpre⟩ := hrel
    by_cases hkn : k < n
    · by_cases hk5 : k < 50
      · have hkl : k < l.length := by rw [← hn.out]; exact hkn
        obtain ⟨b, o, rfl, _, A', c', q0, q1, q2, q3, q4, q5, _, _⟩ := h.out k hkl
        obtain ⟨z1, z2, z3⟩ := hsz2.out k hkl
        by_cases g1 : l[k].nm.size ≤ 300
        · have d1 : decide (300 < l[k].nm.size) = false := decide_eq_false (by omega)
          by_cases g2 : l[k].f.nm.size ≤ 300
          · have d2 : decide (300 < l[k].f.nm.size) = false := decide_eq_false (by omega)
            by_cases g3 : l[k].f.ar.length ≤ 70
            · have d3 : decide (70 < l[k].f.ar.length) = false := decide_eq_false (by omega)
              have hgk : goodB l[k] = true := by simp [goodB, g1, g2, g3]
              have hpre2 := hide (show ∀ j (_ : j < k + 1) (hj : j < l.length), goodB l[j] = true from fun j hj hjl => by
                by_cases e : j = k
                · subst e; exact hgk
                · exact hpre j (by omega) hjl)
              clear hgk hpre
              generalize l[k] = a at *
              go_wp2
              go_round
              case rel => exact ⟨k + 1, by omega, by omega, by go_num, hpre2.out⟩
              case measure => simp [intOf]; omega
            · have d3 : decide (70 < l[k].f.ar.length) = true := decide_eq_true (by omega)
              obtain rfl := hbad.out k hkl (by simp [goodB, g3])
              clear hpre
              generalize l[k] = a at *
              go_wp2
              go_ret
              exact ⟨rfl, rfl⟩
          · have d2 : decide (300 < l[k].f.nm.size) = true := decide_eq_true (by omega)
            obtain rfl := hbad.out k hkl (by simp [goodB, g2])
            clear hpre
            generalize l[k] = a at *
            go_wp2
            go_ret
            exact ⟨rfl, rfl⟩
        · have d1 : decide (300 < l[k].nm.size) = true := decide_eq_true (by omega)
          obtain rfl := hbad.out k hkl (by simp [goodB, g1])
          clear hpre
          generalize l[k] = a at *
          go_wp2
          go_ret
          exact ⟨rfl, rfl⟩
      · obtain rfl := hbig.out (by omega)
        have d5 : decide (k < 50) = false := decide_eq_false hk5
        have d6 : decide ((l.length : Int) ≤ 40) = false := decide_eq_false (by have := hn.out; omega)
        have d7 : decide ((n : Int) ≤ 40) = false := decide_eq_false (by omega)
        have d8 : decide (k < l.length) = true := decide_eq_true (by have := hn.out; omega)
        have d9 : decide ((k : Int) < 50) = false := decide_eq_false (by omega)
        clear hpre
        go_wp2
        go_ret
        exact ⟨rfl, rfl⟩
    · have hrr := hgood.out (fun j hj => hpre j (by have := hn.out; omega) (by have := hn.out; omega))
      have hri : r = decide ((l.length : Int) ≤ 40) := by rw [hrr]; exact decide_eq_decide.2 (by have := hn.out; omega)
      subst hri
      clear hrr
      have d4 : decide (k < n) = false := decide_eq_false hkn
      clear hpre
      go_wp2
      go_ret
      exact ⟨rfl, rfl⟩

section
variable {B : Nat} {w0 w w' : World} {p r g k : Nat} {cs : Array Value}
/-- Between two acts. -/
def J0 (B : Nat) (w0 : World) (p r k : Nat) (w : World) : Prop := ∃ lv so fu ty L T R, Tb R w p T k lv so fu ty ∧ RfE T w r R (so.map Prod.fst) ty L ∧ (∀ b ∈ T, B ≤ b) ∧ (∀ b ∈ R, B ≤ b) ∧ B ≤ w.heap.size ∧ Below B w0 w ∧ Jk k lv so fu ty L
theorem J0.below (h : J0 B w0 p r k w) : Below B w0 w := by obtain ⟨_, _, _, _, _, _, _, _, _, _, _, _, h, _⟩ := h; exact h
theorem J0.size (h : J0 B w0 p r k w) : B ≤ w.heap.size := by obtain ⟨_, _, _, _, _, _, _, _, _, _, _, h, _, _⟩ := h; exact h
theorem Jj.out0 (h : Jj B w0 p r g cs k w) : J0 B w0 p r k w := by
  obtain ⟨lv, so, fu, ty, L, T, R, h1, h2⟩ := h
  obtain ⟨AN, cN, AF, cF, vL, hr⟩ := h1.rf
  exact ⟨lv, so, fu, ty, L, T, R, h1.tb.side (Off.refl [] w) (by simp) (fun b hb => ⟨.inl (List.mem_cons_of_mem _ hb), hr.lt b hb⟩), h1.rf, h1.tB, h1.rB, h1.sz, h1.bl, h2⟩
/-- An act is laid. -/
theorem J0.act (h : J0 B w0 p r k w) (hB : Bk w.heap.size cs 37 w') (hb : Below w.heap.size w w') : Jj B w0 p r w.heap.size cs k w' := by
  obtain ⟨lv, so, fu, ty, L, T, R, h1, h2, h3, h4, h5, h6, h7⟩ := h
  obtain ⟨AN, cN, AF, cF, vL, hr⟩ := h2
  refine ⟨lv, so, fu, ty, L, T, R, ⟨h1.side (S := []) (Off.of_below hb []) (by simp) (fun b hm => ?_), ⟨AN, cN, AF, cF, vL, hr.next hb⟩, h3, h4, Nat.le_trans h5 hb.size, h6.trans (hb.mono h5), hB, fun hm => Nat.lt_irrefl _ (hr.lt _ hm)⟩, h7⟩
  rcases List.mem_cons.1 hm with rfl | hm
  · exact ⟨.inr (Nat.le_refl _), hB.lt⟩
  · exact ⟨.inl hm, Nat.lt_of_lt_of_le (hr.lt b hm) hb.size⟩
/-- The start: both are empty. -/
theorem J0.start {w1 : World} (hB : B ≤ w1.heap.size) (hbl : Below B w0 w1) (ht : Tb [] w1 p [p] 0 0 [] [] []) (hp : B ≤ p) {W : World} (hW : Bk w1.heap.size #[.slice none 0 0, .slice none 0 0, .slice none 0 0] 32 W) (hb : Below w1.heap.size w1 W) : J0 B w0 p w1.heap.size 0 W := by
  refine ⟨0, [], [], [], [], [p], [w1.heap.size], ht.side (S := []) (Off.of_below hb []) (by simp) (fun b hm => ?_), ⟨none, 0, none, 0, .slice none 0 0, hW, ⟨by simp, by unfold maxLen; omega, by simp⟩, ⟨by simp, by unfold maxLen; omega, by simp⟩, .inl rfl, ⟨[], .inl rfl, rfl⟩, World.ownsRow_nil _ _ _ _, rfl, by simp, fun b hb hm => ?_⟩, by simpa using hp, by simpa using hB, Nat.le_trans hB hb.size, hbl.trans (hb.mono hB), ⟨rfl, LevOk.nil, by simp, by simp, by simp, by simp⟩⟩
  · simp at hm
    subst hm
    exact ⟨.inr (Nat.le_refl _), hW.lt⟩
  · simp at hb hm
    have := ht.lt b (by simp [hb])
    omega
theorem j_levels (h : Jj B w0 p r g cs k w) : ∃ lv : Nat, (∀ w', Below w.heap.size w w' → Calls Try.prog 27 #[.pointer (some ⟨p, 0, none⟩)] w' fun e w'' => e = .returned (.int .i64 (lv : Int)) ∧ w' = w'') ∧
    ∀ w', Below w.heap.size w w' → Calls Try.prog 28 #[.pointer (some ⟨r, 0, none⟩)] w' fun e w'' => e = .returned (.int .i64 (lv : Int)) ∧ w' = w'' := by
  obtain ⟨lv, so, fu, ty, L, T, R, h1, h2⟩ := h
  refine ⟨lv, fun w' hb => ?_, fun w' hb => ?_⟩
  · obtain ⟨⟨v1, m1, v2, m2, v3, hp⟩, _⟩ := (h1.next hb).tb
    exact levels_any p lv w' (hp.bk.cell rfl)
  · obtain ⟨AN, cN, AF, cF, vL, hr⟩ := (h1.next hb).rp
    have := ref_levels hr
    rwa [h2.hl] at this
end
end Nt
end Go.Proofs.Ytlcgdiciiibeeaa
