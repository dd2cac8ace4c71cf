/-
  A function that may not be declared.
-/
import Derived.Test.YtlcgdiciiibeeaaTj
namespace Go.Proofs.Ytlcgdiciiibeeaa
open Go.ChangeShapes Go.RowKit
namespace Nt
set_option maxRecDepth 100000
variable {X : List Nat}
set_option linter.unusedSimpArgs false
set_option linter.unusedVariables false

set_option maxHeartbeats 2000000 in
set_option maxRecDepth 100000 in
theorem fun_no1 (p : Nat) (T : List Nat) (N lv : Nat) (so fu : List (ByteArray × Nat)) (ty : List Fn) (nm : ByteArray) (B : Option Addr) (ar : List Int) (d : Nat) (rs : Int) (w : World) (h : Tb X w p T N lv so fu ty) (hi : Ir T w B ar) (hf : freeB fu nm = false) (hs : nm.size ≤ maxLen) (hN : N ≤ 1000000) (hal : ar.length ≤ 1000000) :
    Calls Try.prog 12 #[.pointer (some ⟨p, 0, none⟩), .agg #[.string nm, .slice B ar.length d, .int .i64 rs]] w fun e w' => e = .returned (.int .i64 1) ∧ Below w.heap.size w w' := by
  obtain ⟨⟨v1, m1, v2, m2, v3, h⟩, hnames⟩ := h
  have M0 := FunMid.start (nm := nm) (d := d) (rs := rs) h hi
  obtain ⟨W0, hW0⟩ : ∃ W, W = w.alloc (.cells #[.string nm, .slice B ar.length d, .int .i64 rs] 35) := ⟨_, rfl⟩
  rw [← hW0] at M0
  obtain ⟨g, hg⟩ : ∃ g, g = w.heap.size := ⟨_, rfl⟩
  rw [← hg] at M0
  have M1 : FunMid X g p T N lv so fu ty v1 m1 v2 m2 v3 nm B ar d rs W0.drew := M0.off ((Off.refl _ _).drew)
  have hO1 : Below w.heap.size w W0.drew := by rw [hW0]; exact ((Below.refl _ _).alloc (Nat.le_refl _) _).drew
  have hfree := free_any p 3 m2 N fu nm W0.drew (M1.tb.bk.cell rfl) M1.tb.fS.map hs
  rw [hf] at hfree
  have x0 : W0.drew.cell? ⟨g, 0, none⟩ = some (.string nm) := M1.bx.cell rfl
  have x1 : W0.drew.cell? ⟨g, 1, none⟩ = some (.slice B ar.length d) := M1.bx.cell rfl
  have x2 : W0.drew.cell? ⟨g, 2, none⟩ = some (.int .i64 rs) := M1.bx.cell rfl
  have hfree := hide hfree
  have hO1 := hide hO1
  have hG := hide hg
  have hW := hide hW0
  clear M0 h hf hs M1 hi hg hW0
  go_enter Try.func12, Try.ntmps12
  go_wp2
  rw [← hW.out, ← hG.out]
  refine wp_region_held_drew (S := (fun W => W.cell? ⟨g, 0, none⟩ = some (.string nm) ∧ W.cell? ⟨g, 1, none⟩ = some (.slice B ar.length d) ∧ W.cell? ⟨g, 2, none⟩ = some (.int .i64 rs))) (by kernel_rfl) ?_ (fun hHeld => ?_)
  · (try dsimp only)
    exact ⟨x0, x1, x2⟩
  refine wpAnyH_take (i := 0) (v := ?vvx0) (by (simp only [List.getElem?_toArray, List.getElem?_cons_zero, List.getElem?_cons_succ]) <;> rfl) (by kernel_rfl) (by kernel_rfl) (by kernel_rfl) ?hqx0 (Or.inl ⟨by rfl, ?hyx0⟩) (by assumption) ?_
  case hqx0 => exact fun _ _ _ h => h
  case hyx0 => ((intro w hSw; (try dsimp only at hSw); go_simp) <;> (with_reducible rfl))
  (try simp only [Act.put, List.setIfInBounds_toArray, List.set_cons_zero, List.set_cons_succ])
  refine wpAnyH_take (i := 1) (v := ?vvx1) (by (simp only [List.getElem?_toArray, List.getElem?_cons_zero, List.getElem?_cons_succ]) <;> rfl) (by kernel_rfl) (by kernel_rfl) (by kernel_rfl) ?hqx1 (Or.inl ⟨by rfl, ?hyx1⟩) (by assumption) ?_
  case hqx1 => exact fun _ _ _ h => h
  case hyx1 => ((intro w hSw; (try dsimp only at hSw); go_simp) <;> (with_reducible rfl))
  (try simp only [Act.put, List.setIfInBounds_toArray, List.set_cons_zero, List.set_cons_succ])
  refine wpAnyH_take (i := 2) (v := ?vvx2) (by (simp only [List.getElem?_toArray, List.getElem?_cons_zero, List.getElem?_cons_succ]) <;> rfl) (by kernel_rfl) (by kernel_rfl) (by kernel_rfl) ?hqx2 (Or.inl ⟨by rfl, ?hyx2⟩) (by assumption) ?_
  case hqx2 => exact fun _ _ _ h => h
  case hyx2 => ((intro w hSw; (try dsimp only at hSw); go_simp) <;> (with_reducible rfl))
  (try simp only [Act.put, List.setIfInBounds_toArray, List.set_cons_zero, List.set_cons_succ])
  refine wpAnyH_take (i := 3) (v := ?vvx3) (by (simp only [List.getElem?_toArray, List.getElem?_cons_zero, List.getElem?_cons_succ]) <;> rfl) (by kernel_rfl) (by kernel_rfl) (by kernel_rfl) ?hqx3 (Or.inl ⟨by rfl, ?hyx3⟩) (by assumption) ?_
  case hqx3 => exact fun _ _ _ h => h
  case hyx3 => ((intro w hSw; (try dsimp only at hSw); go_simp) <;> (with_reducible rfl))
  (try simp only [Act.put, List.setIfInBounds_toArray, List.set_cons_zero, List.set_cons_succ])
  refine wpAnyH_take (i := 4) (v := ?vvx4) (by (simp only [List.getElem?_toArray, List.getElem?_cons_zero, List.getElem?_cons_succ]) <;> rfl) (by kernel_rfl) (by kernel_rfl) (by kernel_rfl) ?hqx4 (Or.inl ⟨by rfl, ?hyx4⟩) (by assumption) ?_
  case hqx4 => exact fun _ _ _ h => h
  case hyx4 => ((intro w hSw; (try dsimp only at hSw); go_simp) <;> (with_reducible rfl))
  (try simp only [Act.put, List.setIfInBounds_toArray, List.set_cons_zero, List.set_cons_succ])
  refine wpAnyH_take (i := 5) (v := ?vvx5) (by (simp only [List.getElem?_toArray, List.getElem?_cons_zero, List.getElem?_cons_succ]) <;> rfl) (by kernel_rfl) (by kernel_rfl) (by kernel_rfl) ?hqx5 (Or.inl ⟨by rfl, ?hyx5⟩) (by assumption) ?_
  case hqx5 => exact fun _ _ _ h => h
  case hyx5 => ((intro w hSw; (try dsimp only at hSw); go_simp) <;> (with_reducible rfl))
  (try simp only [Act.put, List.setIfInBounds_toArray, List.set_cons_zero, List.set_cons_succ])
  refine wpAnyH_take (i := 6) (v := ?vvx6) (by (simp only [List.getElem?_toArray, List.getElem?_cons_zero, List.getElem?_cons_succ]) <;> rfl) (by kernel_rfl) (by kernel_rfl) (by kernel_rfl) ?hqx6 (Or.inl ⟨by rfl, ?hyx6⟩) (by assumption) ?_
  case hqx6 => exact fun _ _ _ h => h
  case hyx6 => ((intro w hSw; (try dsimp only at hSw); go_simp) <;> (with_reducible rfl))
  (try simp only [Act.put, List.setIfInBounds_toArray, List.set_cons_zero, List.set_cons_succ])
  refine wpAnyH_take (i := 7) (v := ?vvx7) (by (simp only [List.getElem?_toArray, List.getElem?_cons_zero, List.getElem?_cons_succ]) <;> rfl) (by kernel_rfl) (by kernel_rfl) (by kernel_rfl) ?hqx7 (Or.inl ⟨by rfl, ?hyx7⟩) (by assumption) ?_
  case hqx7 => exact fun _ _ _ h => h
  case hyx7 => ((intro w hSw; (try dsimp only at hSw); go_simp) <;> (with_reducible rfl))
  (try simp only [Act.put, List.setIfInBounds_toArray, List.set_cons_zero, List.set_cons_succ])
  refine wpAnyH_ready (rs := [8]) (by kernel_rfl) (by simp) ?_
  refine AllReadyH.cons (by (simp only [List.getElem?_toArray, List.getElem?_cons_zero, List.getElem?_cons_succ]) <;> rfl) (fun K hK => ?_) AllReadyH.nil
  go_simp
  go_at_call 33; (with_reducible refine (hfree.out).mono ?_); rintro e w1 ⟨rfl, rfl⟩
  (try go_wp2_with fail)
  refine hK.out _ _ ?_ (fun hHeld => ?_)
  · (try dsimp only)
    exact ⟨x0, x1, x2⟩
  (try clear hK K)
  (try simp only [Act.put, List.setIfInBounds_toArray, List.set_cons_zero, List.set_cons_succ])
  refine wpAnyH_take (i := 9) (v := ?vvx9) (by (simp only [List.getElem?_toArray, List.getElem?_cons_zero, List.getElem?_cons_succ]) <;> rfl) (by kernel_rfl) (by kernel_rfl) (by kernel_rfl) ?hqx9 (Or.inl ⟨by rfl, ?hyx9⟩) (by assumption) ?_
  case hqx9 => exact fun _ _ _ h => h
  case hyx9 => ((intro w hSw; (try dsimp only at hSw); go_simp) <;> (with_reducible rfl))
  (try simp only [Act.put, List.setIfInBounds_toArray, List.set_cons_zero, List.set_cons_succ])
  refine wpAnyH_take (i := 10) (v := ?vvx10) (by (simp only [List.getElem?_toArray, List.getElem?_cons_zero, List.getElem?_cons_succ]) <;> rfl) (by kernel_rfl) (by kernel_rfl) (by kernel_rfl) ?hqx10 (Or.inl ⟨by rfl, ?hyx10⟩) (by assumption) ?_
  case hqx10 => exact fun _ _ _ h => h
  case hyx10 => ((intro w hSw; (try dsimp only at hSw); go_simp) <;> (with_reducible rfl))
  (try simp only [Act.put, List.setIfInBounds_toArray, List.set_cons_zero, List.set_cons_succ])
  refine wpAnyH_take (i := 11) (v := ?vvx11) (by (simp only [List.getElem?_toArray, List.getElem?_cons_zero, List.getElem?_cons_succ]) <;> rfl) (by kernel_rfl) (by kernel_rfl) (by kernel_rfl) ?hqx11 (Or.inl ⟨by rfl, ?hyx11⟩) (by assumption) ?_
  case hqx11 => exact fun _ _ _ h => h
  case hyx11 => ((intro w hSw; (try dsimp only at hSw); go_simp) <;> (with_reducible rfl))
  (try simp only [Act.put, List.setIfInBounds_toArray, List.set_cons_zero, List.set_cons_succ])
  refine wpAnyH_take (i := 12) (v := undef) (by (simp only [List.getElem?_toArray, List.getElem?_cons_zero, List.getElem?_cons_succ]) <;> rfl) (by kernel_rfl) (by kernel_rfl) (by kernel_rfl) ?hqx12 (Or.inr ⟨by rfl, rfl⟩) (by assumption) ?_
  case hqx12 => exact fun _ _ _ h => h
  (try simp only [Act.put, List.setIfInBounds_toArray, List.set_cons_zero, List.set_cons_succ])
  refine wpAnyH_take (i := 13) (v := undef) (by (simp only [List.getElem?_toArray, List.getElem?_cons_zero, List.getElem?_cons_succ]) <;> rfl) (by kernel_rfl) (by kernel_rfl) (by kernel_rfl) ?hqx13 (Or.inr ⟨by rfl, rfl⟩) (by assumption) ?_
  case hqx13 => exact fun _ _ _ h => h
  (try simp only [Act.put, List.setIfInBounds_toArray, List.set_cons_zero, List.set_cons_succ])
  refine wpAnyH_take (i := 14) (v := undef) (by (simp only [List.getElem?_toArray, List.getElem?_cons_zero, List.getElem?_cons_succ]) <;> rfl) (by kernel_rfl) (by kernel_rfl) (by kernel_rfl) ?hqx14 (Or.inr ⟨by rfl, rfl⟩) (by assumption) ?_
  case hqx14 => exact fun _ _ _ h => h
  (try simp only [Act.put, List.setIfInBounds_toArray, List.set_cons_zero, List.set_cons_succ])
  refine wpAnyH_take (i := 15) (v := undef) (by (simp only [List.getElem?_toArray, List.getElem?_cons_zero, List.getElem?_cons_succ]) <;> rfl) (by kernel_rfl) (by kernel_rfl) (by kernel_rfl) ?hqx15 (Or.inr ⟨by rfl, rfl⟩) (by assumption) ?_
  case hqx15 => exact fun _ _ _ h => h
  (try simp only [Act.put, List.setIfInBounds_toArray, List.set_cons_zero, List.set_cons_succ])
  refine wpAnyH_take (i := 16) (v := ?vvx16) (by (simp only [List.getElem?_toArray, List.getElem?_cons_zero, List.getElem?_cons_succ]) <;> rfl) (by kernel_rfl) (by kernel_rfl) (by kernel_rfl) ?hqx16 (Or.inl ⟨by rfl, ?hyx16⟩) (by assumption) ?_
  case hqx16 => exact fun _ _ _ h => h
  case hyx16 => ((intro w hSw; (try dsimp only at hSw); go_simp) <;> (with_reducible rfl))
  (try simp only [Act.put, List.setIfInBounds_toArray, List.set_cons_zero, List.set_cons_succ])
  refine wpAnyH_take (i := 17) (v := ?vvx17) (by (simp only [List.getElem?_toArray, List.getElem?_cons_zero, List.getElem?_cons_succ]) <;> rfl) (by kernel_rfl) (by kernel_rfl) (by kernel_rfl) ?hqx17 (Or.inl ⟨by rfl, ?hyx17⟩) (by assumption) ?_
  case hqx17 => exact fun _ _ _ h => h
  case hyx17 => ((intro w hSw; (try dsimp only at hSw); go_simp) <;> (with_reducible rfl))
  (try simp only [Act.put, List.setIfInBounds_toArray, List.set_cons_zero, List.set_cons_succ])
  refine wpAnyH_done (by kernel_rfl) ?_ _
  (try clear hHeld)
  go_wp2
  go_ret
  exact ⟨rfl, hO1.out⟩

set_option maxHeartbeats 2000000 in
set_option maxRecDepth 100000 in
theorem fun_no2 (p : Nat) (T : List Nat) (N lv : Nat) (so fu : List (ByteArray × Nat)) (ty : List Fn) (nm : ByteArray) (B : Option Addr) (ar : List Int) (d : Nat) (rs : Int) (w : World) (h : Tb X w p T N lv so fu ty) (hi : Ir T w B ar) (hf : freeB fu nm = true) (ht : typedB so.length ar rs = false) (hs : nm.size ≤ maxLen) (hN : N ≤ 1000000) (hal : ar.length ≤ 1000000) :
    Calls Try.prog 12 #[.pointer (some ⟨p, 0, none⟩), .agg #[.string nm, .slice B ar.length d, .int .i64 rs]] w fun e w' => e = .returned (.int .i64 1) ∧ Below w.heap.size w w' := by
  obtain ⟨⟨v1, m1, v2, m2, v3, h⟩, hnames⟩ := h
  have M0 := FunMid.start (nm := nm) (d := d) (rs := rs) h hi
  obtain ⟨W0, hW0⟩ : ∃ W, W = w.alloc (.cells #[.string nm, .slice B ar.length d, .int .i64 rs] 35) := ⟨_, rfl⟩
  rw [← hW0] at M0
  obtain ⟨g, hg⟩ : ∃ g, g = w.heap.size := ⟨_, rfl⟩
  rw [← hg] at M0
  have M1 : FunMid X g p T N lv so fu ty v1 m1 v2 m2 v3 nm B ar d rs W0.drew := M0.off ((Off.refl _ _).drew)
  have hO1 : Below w.heap.size w W0.drew := by rw [hW0]; exact ((Below.refl _ _).alloc (Nat.le_refl _) _).drew
  have hfree := free_any p 3 m2 N fu nm W0.drew (M1.tb.bk.cell rfl) M1.tb.fS.map hs
  rw [hf] at hfree
  have x0 : W0.drew.cell? ⟨g, 0, none⟩ = some (.string nm) := M1.bx.cell rfl
  have x1 : W0.drew.cell? ⟨g, 1, none⟩ = some (.slice B ar.length d) := M1.bx.cell rfl
  have x2 : W0.drew.cell? ⟨g, 2, none⟩ = some (.int .i64 rs) := M1.bx.cell rfl
  have hfree := hide hfree
  have hO1 := hide hO1
  have hn1 : so.length ≤ 1000000 := Nat.le_trans h.sS.le hN
  have hform1 : ∃ A c, v1 = .slice A so.length c := by
    rcases h.sS.row.2 with ⟨e, h⟩ | ⟨g, cap, cu, e, _⟩
    · exact ⟨none, 0, by rw [e, h]⟩
    · exact ⟨_, _, e⟩
  obtain ⟨A1, k1, rfl⟩ := hform1
  have htyped := typed_any p so.length k1 A1 B nm ar d rs T W0.drew (M1.tb.bk.cell rfl) hn1 M1.ir (by omega)
  rw [ht] at htyped
  have htyped := hide htyped
  have hnext : ∀ w2, Below W0.drew.heap.size W0.drew w2 → w2.cell? ⟨g, 0, none⟩ = some (.string nm) ∧ w2.cell? ⟨g, 1, none⟩ = some (.slice B ar.length d) ∧ w2.cell? ⟨g, 2, none⟩ = some (.int .i64 rs) := by
    intro w2 hb2
    have M2 := M1.off (.of_below hb2 [])
    exact ⟨M2.bx.cell rfl, M2.bx.cell rfl, M2.bx.cell rfl⟩
  have hnext := hide hnext
  have hsz : w.heap.size ≤ W0.drew.heap.size := hO1.out.size
  have hsz := hide hsz
  clear ht
  have hG := hide hg
  have hW := hide hW0
  clear M0 h hf hs M1 hi hg hW0
  go_enter Try.func12, Try.ntmps12
  go_wp2
  rw [← hW.out, ← hG.out]
  refine wp_region_held_drew (S := (fun W => W.cell? ⟨g, 0, none⟩ = some (.string nm) ∧ W.cell? ⟨g, 1, none⟩ = some (.slice B ar.length d) ∧ W.cell? ⟨g, 2, none⟩ = some (.int .i64 rs))) (by kernel_rfl) ?_ (fun hHeld => ?_)
  · (try dsimp only)
    exact ⟨x0, x1, x2⟩
  refine wpAnyH_take (i := 0) (v := ?vvx0) (by (simp only [List.getElem?_toArray, List.getElem?_cons_zero, List.getElem?_cons_succ]) <;> rfl) (by kernel_rfl) (by kernel_rfl) (by kernel_rfl) ?hqx0 (Or.inl ⟨by rfl, ?hyx0⟩) (by assumption) ?_
  case hqx0 => exact fun _ _ _ h => h
  case hyx0 => ((intro w hSw; (try dsimp only at hSw); go_simp) <;> (with_reducible rfl))
  (try simp only [Act.put, List.setIfInBounds_toArray, List.set_cons_zero, List.set_cons_succ])
  refine wpAnyH_take (i := 1) (v := ?vvx1) (by (simp only [List.getElem?_toArray, List.getElem?_cons_zero, List.getElem?_cons_succ]) <;> rfl) (by kernel_rfl) (by kernel_rfl) (by kernel_rfl) ?hqx1 (Or.inl ⟨by rfl, ?hyx1⟩) (by assumption) ?_
  case hqx1 => exact fun _ _ _ h => h
  case hyx1 => ((intro w hSw; (try dsimp only at hSw); go_simp) <;> (with_reducible rfl))
  (try simp only [Act.put, List.setIfInBounds_toArray, List.set_cons_zero, List.set_cons_succ])
  refine wpAnyH_take (i := 2) (v := ?vvx2) (by (simp only [List.getElem?_toArray, List.getElem?_cons_zero, List.getElem?_cons_succ]) <;> rfl) (by kernel_rfl) (by kernel_rfl) (by kernel_rfl) ?hqx2 (Or.inl ⟨by rfl, ?hyx2⟩) (by assumption) ?_
  case hqx2 => exact fun _ _ _ h => h
  case hyx2 => ((intro w hSw; (try dsimp only at hSw); go_simp) <;> (with_reducible rfl))
  (try simp only [Act.put, List.setIfInBounds_toArray, List.set_cons_zero, List.set_cons_succ])
  refine wpAnyH_take (i := 3) (v := ?vvx3) (by (simp only [List.getElem?_toArray, List.getElem?_cons_zero, List.getElem?_cons_succ]) <;> rfl) (by kernel_rfl) (by kernel_rfl) (by kernel_rfl) ?hqx3 (Or.inl ⟨by rfl, ?hyx3⟩) (by assumption) ?_
  case hqx3 => exact fun _ _ _ h => h
  case hyx3 => ((intro w hSw; (try dsimp only at hSw); go_simp) <;> (with_reducible rfl))
  (try simp only [Act.put, List.setIfInBounds_toArray, List.set_cons_zero, List.set_cons_succ])
  refine wpAnyH_take (i := 4) (v := ?vvx4) (by (simp only [List.getElem?_toArray, List.getElem?_cons_zero, List.getElem?_cons_succ]) <;> rfl) (by kernel_rfl) (by kernel_rfl) (by kernel_rfl) ?hqx4 (Or.inl ⟨by rfl, ?hyx4⟩) (by assumption) ?_
  case hqx4 => exact fun _ _ _ h => h
  case hyx4 => ((intro w hSw; (try dsimp only at hSw); go_simp) <;> (with_reducible rfl))
  (try simp only [Act.put, List.setIfInBounds_toArray, List.set_cons_zero, List.set_cons_succ])
  refine wpAnyH_take (i := 5) (v := ?vvx5) (by (simp only [List.getElem?_toArray, List.getElem?_cons_zero, List.getElem?_cons_succ]) <;> rfl) (by kernel_rfl) (by kernel_rfl) (by kernel_rfl) ?hqx5 (Or.inl ⟨by rfl, ?hyx5⟩) (by assumption) ?_
  case hqx5 => exact fun _ _ _ h => h
  case hyx5 => ((intro w hSw; (try dsimp only at hSw); go_simp) <;> (with_reducible rfl))
  (try simp only [Act.put, List.setIfInBounds_toArray, List.set_cons_zero, List.set_cons_succ])
  refine wpAnyH_take (i := 6) (v := ?vvx6) (by (simp only [List.getElem?_toArray, List.getElem?_cons_zero, List.getElem?_cons_succ]) <;> rfl) (by kernel_rfl) (by kernel_rfl) (by kernel_rfl) ?hqx6 (Or.inl ⟨by rfl, ?hyx6⟩) (by assumption) ?_
  case hqx6 => exact fun _ _ _ h => h
  case hyx6 => ((intro w hSw; (try dsimp only at hSw); go_simp) <;> (with_reducible rfl))
  (try simp only [Act.put, List.setIfInBounds_toArray, List.set_cons_zero, List.set_cons_succ])
  refine wpAnyH_take (i := 7) (v := ?vvx7) (by (simp only [List.getElem?_toArray, List.getElem?_cons_zero, List.getElem?_cons_succ]) <;> rfl) (by kernel_rfl) (by kernel_rfl) (by kernel_rfl) ?hqx7 (Or.inl ⟨by rfl, ?hyx7⟩) (by assumption) ?_
  case hqx7 => exact fun _ _ _ h => h
  case hyx7 => ((intro w hSw; (try dsimp only at hSw); go_simp) <;> (with_reducible rfl))
  (try simp only [Act.put, List.setIfInBounds_toArray, List.set_cons_zero, List.set_cons_succ])
  refine wpAnyH_ready (rs := [8]) (by kernel_rfl) (by simp) ?_
  refine AllReadyH.cons (by (simp only [List.getElem?_toArray, List.getElem?_cons_zero, List.getElem?_cons_succ]) <;> rfl) (fun K hK => ?_) AllReadyH.nil
  go_simp
  go_at_call 33; (with_reducible refine (hfree.out).mono ?_); rintro e w1 ⟨rfl, rfl⟩
  (try go_wp2_with fail)
  refine hK.out _ _ ?_ (fun hHeld => ?_)
  · (try dsimp only)
    (first | exact ⟨x0, x1, x2⟩ | exact ⟨z0, z1, z2⟩)
  (try clear hK K)
  (try simp only [Act.put, List.setIfInBounds_toArray, List.set_cons_zero, List.set_cons_succ])
  refine wpAnyH_take (i := 9) (v := ?vvx9) (by (simp only [List.getElem?_toArray, List.getElem?_cons_zero, List.getElem?_cons_succ]) <;> rfl) (by kernel_rfl) (by kernel_rfl) (by kernel_rfl) ?hqx9 (Or.inl ⟨by rfl, ?hyx9⟩) (by assumption) ?_
  case hqx9 => exact fun _ _ _ h => h
  case hyx9 => ((intro w hSw; (try dsimp only at hSw); go_simp) <;> (with_reducible rfl))
  (try simp only [Act.put, List.setIfInBounds_toArray, List.set_cons_zero, List.set_cons_succ])
  refine wpAnyH_take (i := 10) (v := ?vvx10) (by (simp only [List.getElem?_toArray, List.getElem?_cons_zero, List.getElem?_cons_succ]) <;> rfl) (by kernel_rfl) (by kernel_rfl) (by kernel_rfl) ?hqx10 (Or.inl ⟨by rfl, ?hyx10⟩) (by assumption) ?_
  case hqx10 => exact fun _ _ _ h => h
  case hyx10 => ((intro w hSw; (try dsimp only at hSw); go_simp) <;> (with_reducible rfl))
  (try simp only [Act.put, List.setIfInBounds_toArray, List.set_cons_zero, List.set_cons_succ])
  refine wpAnyH_take (i := 11) (v := ?vvx11) (by (simp only [List.getElem?_toArray, List.getElem?_cons_zero, List.getElem?_cons_succ]) <;> rfl) (by kernel_rfl) (by kernel_rfl) (by kernel_rfl) ?hqx11 (Or.inl ⟨by rfl, ?hyx11⟩) (by assumption) ?_
  case hqx11 => exact fun _ _ _ h => h
  case hyx11 => ((intro w hSw; (try dsimp only at hSw); go_simp) <;> (with_reducible rfl))
  (try simp only [Act.put, List.setIfInBounds_toArray, List.set_cons_zero, List.set_cons_succ])
  refine wpAnyH_take (i := 12) (v := ?vvx12) (by (simp only [List.getElem?_toArray, List.getElem?_cons_zero, List.getElem?_cons_succ]) <;> rfl) (by kernel_rfl) (by kernel_rfl) (by kernel_rfl) ?hqx12 (Or.inl ⟨by rfl, ?hyx12⟩) (by assumption) ?_
  case hqx12 => exact fun _ _ _ h => h
  case hyx12 => ((intro w hSw; (try dsimp only at hSw); go_simp) <;> (with_reducible rfl))
  (try simp only [Act.put, List.setIfInBounds_toArray, List.set_cons_zero, List.set_cons_succ])
  refine wpAnyH_take (i := 13) (v := ?vvx13) (by (simp only [List.getElem?_toArray, List.getElem?_cons_zero, List.getElem?_cons_succ]) <;> rfl) (by kernel_rfl) (by kernel_rfl) (by kernel_rfl) ?hqx13 (Or.inl ⟨by rfl, ?hyx13⟩) (by assumption) ?_
  case hqx13 => exact fun _ _ _ h => h
  case hyx13 => ((intro w hSw; (try dsimp only at hSw); go_simp) <;> (with_reducible rfl))
  (try simp only [Act.put, List.setIfInBounds_toArray, List.set_cons_zero, List.set_cons_succ])
  refine wpAnyH_ready (rs := [14]) (by kernel_rfl) (by simp) ?_
  refine AllReadyH.cons (by (simp only [List.getElem?_toArray, List.getElem?_cons_zero, List.getElem?_cons_succ]) <;> rfl) (fun K hK => ?_) AllReadyH.nil
  go_simp
  go_at_call 37; (with_reducible refine (htyped.out).mono ?_); rintro e w2 ⟨rfl, hb2⟩; obtain ⟨z0, z1, z2⟩ := hnext.out _ hb2
  (try go_wp2_with fail)
  refine hK.out _ _ ?_ (fun hHeld => ?_)
  · (try dsimp only)
    (first | exact ⟨x0, x1, x2⟩ | exact ⟨z0, z1, z2⟩)
  (try clear hK K)
  (try simp only [Act.put, List.setIfInBounds_toArray, List.set_cons_zero, List.set_cons_succ])
  refine wpAnyH_take (i := 15) (v := ?vvx15) (by (simp only [List.getElem?_toArray, List.getElem?_cons_zero, List.getElem?_cons_succ]) <;> rfl) (by kernel_rfl) (by kernel_rfl) (by kernel_rfl) ?hqx15 (Or.inl ⟨by rfl, ?hyx15⟩) (by assumption) ?_
  case hqx15 => exact fun _ _ _ h => h
  case hyx15 => ((intro w hSw; (try dsimp only at hSw); go_simp) <;> (with_reducible rfl))
  (try simp only [Act.put, List.setIfInBounds_toArray, List.set_cons_zero, List.set_cons_succ])
  refine wpAnyH_take (i := 16) (v := ?vvx16) (by (simp only [List.getElem?_toArray, List.getElem?_cons_zero, List.getElem?_cons_succ]) <;> rfl) (by kernel_rfl) (by kernel_rfl) (by kernel_rfl) ?hqx16 (Or.inl ⟨by rfl, ?hyx16⟩) (by assumption) ?_
  case hqx16 => exact fun _ _ _ h => h
  case hyx16 => ((intro w hSw; (try dsimp only at hSw); go_simp) <;> (with_reducible rfl))
  (try simp only [Act.put, List.setIfInBounds_toArray, List.set_cons_zero, List.set_cons_succ])
  refine wpAnyH_take (i := 17) (v := ?vvx17) (by (simp only [List.getElem?_toArray, List.getElem?_cons_zero, List.getElem?_cons_succ]) <;> rfl) (by kernel_rfl) (by kernel_rfl) (by kernel_rfl) ?hqx17 (Or.inl ⟨by rfl, ?hyx17⟩) (by assumption) ?_
  case hqx17 => exact fun _ _ _ h => h
  case hyx17 => ((intro w hSw; (try dsimp only at hSw); go_simp) <;> (with_reducible rfl))
  (try simp only [Act.put, List.setIfInBounds_toArray, List.set_cons_zero, List.set_cons_succ])
  refine wpAnyH_done (by kernel_rfl) ?_ _
  (try clear hHeld)
  go_wp2
  go_ret
  exact ⟨rfl, hO1.out.trans (hb2.mono hsz.out)⟩
end Nt
end Go.Proofs.Ytlcgdiciiibeeaa
