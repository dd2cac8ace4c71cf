/-
  Two rows of ints are one.
-/
import Derived.Test.YtlcgdiciiibeeaaTp
namespace Go.Proofs.Ytlcgdiciiibeeaa
open Go.ChangeShapes Go.RowKit
namespace Nt
set_option maxRecDepth 100000
set_option linter.unusedSimpArgs false
set_option linter.unusedVariables false

theorem Ir.drewN {T : List Nat} {w : World} {A : Option Addr} {xs : List Int} (h : Ir T w A xs) (q : Nat) : Ir T (w.drewN q) A xs := h
theorem ints_step {xs ys : List Int} {k : Nat} (h1 : k < xs.length) (h2 : k < ys.length) (h : xs.take k = ys.take k) (he : xs.getD k 0 = ys.getD k 0) : xs.take (k + 1) = ys.take (k + 1) := by
  rw [List.take_add_one, List.take_add_one, h, List.getElem?_eq_getElem h1, List.getElem?_eq_getElem h2]
  simp [List.getD, List.getElem?_eq_getElem h1, List.getElem?_eq_getElem h2] at he
  rw [he]
theorem dq (w : World) (q : Nat) : ∃ m, (w.drewN q).drew = w.drewN m := ⟨q + 1, rfl⟩

set_option maxHeartbeats 1000000 in
theorem ints_any (A B : Option Addr) (xs ys : List Int) (c d : Nat) (T T' : List Nat) (w : World) (hx : Ir T w A xs) (hy : Ir T' w B ys) (hl : xs.length ≤ 1000000) (hm : ys.length ≤ 1000000) :
    Calls Try.prog 32 #[.slice A xs.length c, .slice B ys.length d] w fun e w' => e = .returned (.bool (xs == ys)) ∧ ∃ q, w' = w.drewN q := by
  by_cases hn : xs.length = ys.length
  · obtain ⟨r, hr⟩ : ∃ r, r = (xs == ys) := ⟨_, rfl⟩
    rw [← hr, ← hn]
    have hr := hide hr
    have hN := hide hn
    clear hn
    go_enter Try.func32, Try.ntmps32
    go_wp2
    go_loopw [5] (fun i wr => ∃ k : Nat, k ≤ xs.length ∧ i = .int .i64 (k : Int) ∧ xs.take k = ys.take k ∧ ∃ q, wr = w.drewN q) (fun i _ => xs.length - (intOf i).toNat)
    case atStart => exact ⟨0, Nat.zero_le _, rfl, rfl, 0, rfl⟩
    case round =>
      obtain ⟨k, hk, rfl, hd, q, rfl⟩ := hrel
      by_cases hkl : k < xs.length
      · rcases hx with he | ⟨b, o, rfl, _, _, hc⟩
        · rw [he] at hkl; simp at hkl
        rcases hy with he | ⟨b', o', rfl, _, _, hc'⟩
        · rw [hN.out, he] at hkl; simp at hkl
        have h1 := hc k hkl
        have h2 := hc' k (by rw [← hN.out]; exact hkl)
        have hs := hide (ints_step hkl (by rw [← hN.out]; exact hkl) hd)
        have hne : xs.getD k 0 ≠ ys.getD k 0 → xs ≠ ys := fun h e => h (by rw [e])
        have hne := hide hne
        clear hc hc' hd
        generalize xs.getD k 0 = x at *
        generalize ys.getD k 0 = y at *
        by_cases hxy : x = y
        · subst hxy
          go_wp2
          go_quiet (fail)
          go_wp2
          go_roundw
          case rel => exact ⟨k + 1, hkl, by go_num, hs.out trivial, _, rfl⟩
          case measure => (simp [intOf]; omega)
        · have hrf : r = false := by rw [hr.out]; exact beq_eq_false_iff_ne.2 (hne.out hxy)
          subst hrf
          have hb : (x == y) = false := beq_eq_false_iff_ne.2 hxy
          go_wp2
          go_quiet (fail)
          go_wp2
          go_ret
          exact ⟨rfl, _, World.drewN_drewN _ _ _⟩
      · have hkn : k = xs.length := by omega
        have hrt : r = true := by
          rw [hr.out, beq_iff_eq]
          rw [hkn, List.take_length] at hd
          rw [hd, hN.out, List.take_length]
        subst hrt hkn
        go_wp2
        go_ret
        exact ⟨rfl, q, rfl⟩
  · have : (xs == ys) = false := beq_eq_false_iff_ne.2 (fun e => hn (by rw [e]))
    rw [this]
    have hq : ((xs.length : Int) == (ys.length : Int)) = false := by simp; omega
    go_enter Try.func32, Try.ntmps32
    go_wp2
    go_ret
    exact ⟨rfl, 0, rfl⟩
end Nt
end Go.Proofs.Ytlcgdiciiibeeaa
