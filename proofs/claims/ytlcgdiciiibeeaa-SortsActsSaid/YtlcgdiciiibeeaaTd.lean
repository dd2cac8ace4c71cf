/-
  Whether a function's sorts may be those of one; a function with a list of its own.
-/
import Derived.Test.YtlcgdiciiibeeaaTc
namespace Go.Proofs.Ytlcgdiciiibeeaa
open Go.ChangeShapes Go.RowKit
namespace Nt
set_option maxRecDepth 100000

theorem cell_in {w : World} {b o : Nat} {v : Value} (h : w.cell? ⟨b, o, none⟩ = some v) : b < w.heap.size := by
  unfold World.cell? at h
  rcases hb : w.heap[b]? with _ | x
  · simp [hb] at h
  · exact (Array.getElem?_eq_some_iff.1 hb).1
theorem cell_al {w : World} {b o : Nat} {v : Value} (h : w.cell? ⟨b, o, none⟩ = some v) (x : Obj) : (w.alloc x).cell? ⟨b, o, none⟩ = some v :=
  ((Off.refl [] w).alloc x).cell h (cell_in h) (by simp)
theorem Ir.al {T : List Nat} {w : World} {A : Option Addr} {xs : List Int} (h : Ir T w A xs) (x : Obj) : Ir [] (w.alloc x) A xs :=
  h.off ((Off.refl [] w).alloc x) (by simp) (by simp)

/-- May a function have these sorts, where n were declared? -/
def argB (n : Nat) (x : Int) : Bool := decide (x ≠ 0) && knownB n x
def typedB (n : Nat) (ar : List Int) (rs : Int) : Bool := decide (ar.length ≤ 64) && knownB n rs && ar.all (argB n)

theorem all_step {n : Nat} {ar : List Int} {k : Nat} (hk : k < ar.length) (h : (ar.take k).all (argB n) = true) (hx : argB n (ar.getD k 0) = true) : (ar.take (k + 1)).all (argB n) = true := by
  rw [List.take_add_one, List.all_append, h, List.getElem?_eq_getElem hk]
  have : ar.getD k 0 = ar[k] := by simp [List.getD, List.getElem?_eq_getElem hk]
  rw [this] at hx
  simp [hx]
theorem all_stop {n : Nat} {ar : List Int} {k : Nat} (hk : k < ar.length) (hx : argB n (ar.getD k 0) = false) : ar.all (argB n) = false := by
  have : ar.getD k 0 = ar[k] := by simp [List.getD, List.getElem?_eq_getElem hk]
  rw [this] at hx
  exact List.all_eq_false.2 ⟨ar[k], List.getElem_mem hk, by simp [hx]⟩

set_option maxHeartbeats 1000000 in
theorem typed_any (p n c : Nat) (A B : Option Addr) (nm : ByteArray) (ar : List Int) (d : Nat) (rs : Int) (T : List Nat) (w : World) (hv : w.cell? ⟨p, 1, none⟩ = some (.slice A n c)) (hn : n ≤ 1000000) (hi : Ir T w B ar)
    (hl : ar.length ≤ 9223372036854775807) :
    Calls Try.prog 37 #[.pointer (some ⟨p, 0, none⟩), .agg #[.string nm, .slice B ar.length d, .int .i64 rs]] w fun e w' => e = .returned (.bool (typedB n ar rs)) ∧ Below w.heap.size w w' := by
  have hkn : ∀ (o : Obj) (x : Int), Calls Try.prog 42 #[.pointer (some ⟨p, 0, none⟩), .int .i64 x] (w.alloc o) fun e w' => e = .returned (.bool (knownB n x)) ∧ w.alloc o = w' :=
    fun o x => known_any p n c A x _ (cell_al hv o) hn
  have hbl : ∀ o : Obj, Below w.heap.size w (w.alloc o) := fun o => (Below.refl _ _).alloc (Nat.le_refl _) o
  have go : ∀ b, typedB n ar rs = b → Calls Try.prog 37 #[.pointer (some ⟨p, 0, none⟩), .agg #[.string nm, .slice B ar.length d, .int .i64 rs]] w fun e w' => e = .returned (.bool b) ∧ Below w.heap.size w w' := by
    intro b hb
    by_cases h1 : ar.length ≤ 64
    · cases h2 : knownB n rs
      · have : b = false := by rw [← hb]; simp [typedB, h2]
        subst this
        clear hb
        have h3 := fun o => hkn o rs
        rw [h2] at h3
        clear hkn hi h2 hv
        generalize ar.length = m at *
        go_enter Try.func37, Try.ntmps37
        go_wp2_with (go_at_call 42; refine (h3 _).mono ?_; rintro e w' ⟨rfl, rfl⟩)
        go_ret
        exact ⟨rfl, hbl _⟩
      · have hb2 : b = ar.all (argB n) := by rw [← hb]; simp [typedB, h1, h2]
        have h3 := fun o => hkn o rs
        rw [h2] at h3
        have hb3 := hide hb2
        clear hb hb2 h2 hv
        have hcl : ∀ o : Obj, Ir [] (w.alloc o) B ar := fun o => hi.al o
        clear hi
        obtain ⟨m, hm⟩ : ∃ m, m = ar.length := ⟨_, rfl⟩
        rw [← hm]
        have hm2 := hide hm
        rw [← hm] at h1 hl
        clear hm
        go_enter Try.func37, Try.ntmps37
        go_wp2_with (go_at_call 42; refine (h3 _).mono ?_; rintro e w' ⟨rfl, rfl⟩)
        go_loop [21] (fun i => ∃ k : Nat, k ≤ m ∧ i = .int .i64 (k : Int) ∧ (ar.take k).all (argB n) = true) (fun i => m - (intOf i).toNat)
        case atStart => exact ⟨0, Nat.zero_le _, rfl, rfl⟩
        case round =>
          obtain ⟨k, hk, rfl, hall⟩ := hrel
          by_cases hlt : k < m
          · have hcell := hcl (.cells #[.string nm, .slice B m d, .int .i64 rs] 35)
            rcases hcell with he | ⟨b', o, rfl, _, _, hc⟩
            · rw [he] at hm2; have := hm2.out; simp at this; omega
            have hc := hc k (by rw [← hm2.out]; exact hlt)
            have hst := hide (all_step (n := n) (k := k) (by rw [← hm2.out]; exact hlt) hall)
            have hsp := hide (all_stop (n := n) (ar := ar) (k := k) (by rw [← hm2.out]; exact hlt))
            clear hall
            generalize ar.getD k 0 = x at *
            by_cases hx : x = 0
            · subst hx
              have hf : ar.all (argB n) = false := hsp.out (by simp [argB])
              have : b = false := by rw [hb3.out, hf]
              subst this
              go_wp2
              go_ret
              exact ⟨rfl, hbl _⟩
            · have hx2 : ((x : Int) == 0) = false := by simpa using hx
              have h4 := fun o => hkn o x
              cases hkx : knownB n x
              · have hf : ar.all (argB n) = false := hsp.out (by simp [argB, hkx])
                have : b = false := by rw [hb3.out, hf]
                subst this
                rw [hkx] at h4
                clear hkn h3
                go_wp2_with (go_at_call 42; refine (h4 _).mono ?_; rintro e w' ⟨rfl, rfl⟩)
                go_ret
                exact ⟨rfl, hbl _⟩
              · have hnx := hide (hst.out (by simp [argB, hkx, hx]))
                rw [hkx] at h4
                clear hkn h3
                go_wp2_with (go_at_call 42; refine (h4 _).mono ?_; rintro e w' ⟨rfl, rfl⟩)
                go_round
                case rel => exact ⟨k + 1, hlt, rfl, hnx.out⟩
                case measure => simp only [intOf]; omega
          · have hkm : k = m := by omega
            subst hkm
            have : b = true := by
              rw [hb3.out, ← hall, hm2.out, List.take_length]
            subst this
            clear hall hkn h3
            go_wp2
            go_ret
            exact ⟨rfl, hbl _⟩
    · have : b = false := by rw [← hb]; simp [typedB, h1]
      subst this
      clear hb hkn hi hv
      generalize ar.length = m at *
      go_enter Try.func37, Try.ntmps37
      go_wp2
      go_ret
      exact ⟨rfl, hbl _⟩
  exact go _ rfl
end Nt
end Go.Proofs.Ytlcgdiciiibeeaa
