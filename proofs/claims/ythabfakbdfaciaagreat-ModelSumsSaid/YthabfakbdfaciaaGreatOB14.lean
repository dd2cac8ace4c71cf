import Derived.Test.YthabfakbdfaciaaGreatOB9
import Derived.Test.YthabfakbdfaciaaGreatOB10
import Derived.Test.YthabfakbdfaciaaGreatOB5
import Derived.BigQuiet
namespace Go.Proofs.YthabfakbdfaciaaGreat
namespace Nt
set_option maxRecDepth 100000
set_option linter.unusedSimpArgs false
set_option linter.unusedVariables false
set_option maxHeartbeats 16000000
section
open Go.ChangeShapes Go.RowKit
open Go.Maps (Keyed)
open Go.ChangeMaps Go.MapKept Go.WideMaps
def Rx (X : List Nat) (B : Nat) (w : World) (A : Option Addr) (vs : List Value) : Prop :=
  vs = [] ∨ ∃ b o, A = some ⟨b, o, none⟩ ∧ (b ∈ X ∨ b < B) ∧ b < w.heap.size ∧ ∀ j v, vs[j]? = some v → w.cell? ⟨b, o + j, none⟩ = some v
theorem Rx.nil {X : List Nat} {B : Nat} {w : World} {A : Option Addr} : Rx X B w A [] := .inl rfl
theorem Rx.rw {X T : List Nat} {B : Nat} {w : World} {A : Option Addr} {vs : List Value} (h : Rx X B w A vs) (hX : ∀ b ∈ X, b ∉ T) (hB : ∀ b ∈ T, B ≤ b) : Rw T w A vs := by
  rcases h with h | ⟨b, o, e, hb, hl, hc⟩
  · exact .inl h
  · exact .inr ⟨b, o, e, hl, fun hm => hb.elim (fun hx => hX b hx hm) (fun hlt => Nat.not_lt.2 (hB b hm) hlt), hc⟩
section
variable {X : List Nat} {w : World} {q p : Nat} {T : List Nat} {N : Nat} {ns : List Nd} {v : Value} {m1 m2 : Option Nat}
theorem pm_start {c0 c1 : Array Value} {w1 : World} (h : TtP X w q p T N ns v m1 m2) (hb : Below (w.alloc (.cells c0 115)).heap.size (w.alloc (.cells c0 115)) w1) :
    Pm X w T q p T N ns v m1 m2 w.heap.size w1.heap.size c0 c1 (w1.alloc (.cells c1 149)).drew := by
  have h0 : Below w.heap.size w w1 := (bel_al w _).trans (hb.mono (by simp))
  have hsz : w.heap.size + 1 ≤ w1.heap.size := by have := hb.size; simpa using this
  have h1 : Below w.heap.size w (w1.alloc (.cells c1 149)).drew := (h0.trans ((bel_al w1 _).mono h0.size)).trans ((bel_drew _).mono (Nat.le_trans h0.size (by simp)))
  have B0 : Bk w.heap.size c0 115 (w1.alloc (.cells c1 149)) := ((Bk.new c0 115 w).next hb).al _
  have B1 : Bk w1.heap.size c1 149 (w1.alloc (.cells c1 149)) := Bk.new _ _ _
  refine ⟨h.turn h1 (fun b hb => ?_), B0.next (bel_drew _), B1.next (bel_drew _), by omega, Nat.le_refl _, h0.size, Off.of_below h1 T, fun b hb => .inl hb⟩
  have e1 : (w1.alloc (.cells c1 149)).drew.heap.size = w1.heap.size + 1 := by show (w1.alloc _).heap.size = _; simp
  rw [e1]
  rcases List.mem_cons.1 hb with rfl | hb
  · exact ⟨.inr (Nat.le_refl _), by omega⟩
  rcases List.mem_cons.1 hb with rfl | hb
  · exact ⟨.inr h0.size, by omega⟩
  · exact ⟨.inl hb, by have := (h.xs b hb).1; omega⟩
theorem pm_maps {X : List Nat} {w : World} {T0 : List Nat} {q p : Nat} {T : List Nat} {N : Nat} {ns : List Nd} {v : Value} {g0 g1 : Nat} {c0 c1 : Array Value} {W : World}
    (h : Pm X w T0 q p T N ns v none none g0 g1 c0 c1 W) (hns : ns = []) :
    ∃ T', Pm X w T0 q p T' N ns v (some W.heap.size) (some (W.heap.size + 1)) g0 g1 c0 c1 ((((W.setCell ⟨q, 2, none⟩ (.map (some W.heap.size))).setCell ⟨q, 3, none⟩ (.map (some (W.heap.size + 1)))).alloc (.map #[] 0)).alloc (.map #[] 0)) ∧ Off [q] W ((((W.setCell ⟨q, 2, none⟩ (.map (some W.heap.size))).setCell ⟨q, 3, none⟩ (.map (some (W.heap.size + 1)))).alloc (.map #[] 0)).alloc (.map #[] 0)) := by
  subst hns
  obtain ⟨p1, p2, p3, p4⟩ := h.tt.parts
  have hlt := h.tt.lt
  have hx0 : g0 ∉ T := (h.tt.xs g0 (by simp)).2
  have hx1 : g1 ∉ T := (h.tt.xs g1 (by simp)).2
  have hq0 : g0 ≠ q := fun e => hx0 (e ▸ p1)
  have hq1 : g1 ≠ q := fun e => hx1 (e ▸ p1)
  have e1 : ((W.setCell ⟨q, 2, none⟩ (.map (some W.heap.size))).setCell ⟨q, 3, none⟩ (.map (some (W.heap.size + 1)))).heap.size = W.heap.size := by rw [setCell_size, setCell_size]
  have O : Off [q] W ((((W.setCell ⟨q, 2, none⟩ (.map (some W.heap.size))).setCell ⟨q, 3, none⟩ (.map (some (W.heap.size + 1)))).alloc (.map #[] 0)).alloc (.map #[] 0)) := ((((Off.refl [q] W).setCell _ _ (.inl (by simp))).setCell _ _ (.inl (by simp))).alloc _).alloc _
  have M1 : (((W.setCell ⟨q, 2, none⟩ (.map (some W.heap.size))).setCell ⟨q, 3, none⟩ (.map (some (W.heap.size + 1)))).alloc (.map #[] 0)).ownsMap Tryz.prog 149 (plainElem (H := Unit) Tryz.prog 3) W.heap.size N (.map []) := by
    have := (World.ownsMap_made ((W.setCell ⟨q, 2, none⟩ (.map (some W.heap.size))).setCell ⟨q, 3, none⟩ (.map (some (W.heap.size + 1)))) Tryz.prog 149 (plainElem (H := Unit) Tryz.prog 3)).mono (Nat.zero_le N)
    rwa [e1] at this
  have M2 : ((((W.setCell ⟨q, 2, none⟩ (.map (some W.heap.size))).setCell ⟨q, 3, none⟩ (.map (some (W.heap.size + 1)))).alloc (.map #[] 0)).alloc (.map #[] 0)).ownsMap Tryz.prog 9 (unitElem (H := Unit)) (W.heap.size + 1) N (.map []) := by
    have := (World.ownsMap_made (((W.setCell ⟨q, 2, none⟩ (.map (some W.heap.size))).setCell ⟨q, 3, none⟩ (.map (some (W.heap.size + 1)))).alloc (.map #[] 0)) Tryz.prog 9 (unitElem (H := Unit))).mono (Nat.zero_le N)
    have e2 : (((W.setCell ⟨q, 2, none⟩ (.map (some W.heap.size))).setCell ⟨q, 3, none⟩ (.map (some (W.heap.size + 1)))).alloc (.map #[] 0)).heap.size = W.heap.size + 1 := by rw [← e1]; simp
    rwa [e2] at this
  obtain ⟨xs, hrow, hNs⟩ := h.tt.row
  have hvq : ∀ k, v.ownBlock = some k → k ∉ [q] := fun k hk hm => by
    simp at hm
    subst hm
    have := h.tt.once
    rw [h.tt.eT] at this
    simp [hk] at this
  have hsub : ∀ b ∈ q :: (v.ownBlock.toList ++ ((some W.heap.size).toList ++ (some (W.heap.size + 1)).toList)), b ∈ T ∨ W.heap.size ≤ b := by
    intro b hb
    rcases List.mem_cons.1 hb with rfl | hb
    · exact .inl p1
    rcases List.mem_append.1 hb with hb | hb
    · exact .inl (p2 b (by rwa [Option.mem_toList] at hb))
    rcases List.mem_append.1 hb with hb | hb
    · simp at hb; subst hb; exact .inr (Nat.le_refl _)
    · simp at hb; subst hb; exact .inr (Nat.le_succ _)
  have hqs : ∀ b ∈ [q], b ∈ T ++ (g0 :: g1 :: X) ∨ W.heap.size ≤ b := by intro b hb; simp at hb; subst hb; exact .inl (List.mem_append_left _ p1)
  refine ⟨_, ⟨⟨?_, ⟨xs, Off.row hrow O hvq, Ns.off O hqs (fun b hb => ?_) hNs⟩, .inr ⟨_, _, _, _, rfl, rfl, ?_, Km.nil, M2, Ks.nil⟩, rfl, ?_, fun b hb => ⟨?_, fun hm => ?_⟩, h.tt.fit, h.tt.args, h.tt.le⟩, ?_, ?_, h.ne, h.l0, h.l1, ?_, fun b hb => ?_⟩, O⟩
  · have k1 : Bk q #[.pointer (some ⟨p, 0, none⟩), v, .map (some W.heap.size), .map none] 141 (W.setCell ⟨q, 2, none⟩ (.map (some W.heap.size))) := h.tt.bk.set (j := 2) _ rfl
    have k2 : Bk q #[.pointer (some ⟨p, 0, none⟩), v, .map (some W.heap.size), .map (some (W.heap.size + 1))] 141 ((W.setCell ⟨q, 2, none⟩ (.map (some W.heap.size))).setCell ⟨q, 3, none⟩ (.map (some (W.heap.size + 1)))) := k1.set (j := 3) _ rfl
    exact (k2.al _).al _
  · rcases List.mem_append.1 hb with hb | hb
    · exact (hsub b hb).imp (List.mem_append_left _) id
    · exact .inl (List.mem_append_right _ hb)
  · exact M1.alloc _
  · have hv := hrow.lt
    have hn := h.tt.once
    rw [h.tt.eT] at hn
    have hq := hlt q p1
    simp only [List.nodup_cons, List.nodup_append, List.mem_append, Option.toList_some, Option.toList_none, List.mem_singleton, List.append_nil, not_or] at hn ⊢
    refine ⟨⟨hn.1, by omega, by omega⟩, hn.2, ⟨by simp, by simp, fun a ha b hb e => by subst ha hb; omega⟩, fun a ha b hb e => ?_⟩
    rw [Option.mem_toList] at ha
    have := (hv a ha).2
    rcases hb with rfl | rfl <;> omega
  · exact Nat.lt_of_lt_of_le (h.tt.xs b hb).1 O.size
  · rcases hsub b hm with e | e
    · exact (h.tt.xs b hb).2 e
    · exact Nat.not_lt.2 e (h.tt.xs b hb).1
  · exact h.b0.off O (by simpa using hq0)
  · exact h.b1.off O (by simpa using hq1)
  · exact h.of.trans O (fun b hb => by simp at hb; subst hb; exact h.tn _ p1)
  · rcases hsub b hb with e | e
    · exact h.tn b e
    · exact .inr (Nat.le_trans h.of.size e)
end
theorem Rw.s7 {T : List Nat} {W : World} {A : Option Addr} {vs : List Value} {g0 : Nat} (h : Rw T W A vs) (hg : g0 ∈ T) (v0 v1 v2 v3 v4 v5 v6 : Value) : Rw T (((((((W.setCell ⟨g0, 0, none⟩ v0).setCell ⟨g0, 1, none⟩ v1).setCell ⟨g0, 2, none⟩ v2).setCell ⟨g0, 3, none⟩ v3).setCell ⟨g0, 4, none⟩ v4).setCell ⟨g0, 5, none⟩ v5).setCell ⟨g0, 6, none⟩ v6) A vs :=
  h.off (off_set7 W g0 v0 v1 v2 v3 v4 v5 v6) (by intro b hb; simp at hb; subst hb; exact .inl hg) (fun b hb => .inl hb)
theorem wp_buildT {Q : Exit → Act → World → Prop} {o : Oper} {a : Act} {w : World} {K : Act → World → Prop} (i : Nat) (v0 v1 v2 v3 v4 v5 v6 v7 : Value) (ho : o.op = .buildSlice 137 1 #[(0, .tmp i)]) (hx : a.tmps[i]?.getD undef = .agg #[v0, v1, v2, v3, v4, v5, v6, v7])
    (hK : K (a.put o.dst (.slice (some ⟨w.heap.size, 0, none⟩) 1 1)) (w.alloc (.cells #[v0, v1, v2, v3, v4, v5, v6, v7] 145))) : Oper.wp Tryz.prog o a w K Q := by
  unfold Oper.wp
  simp only [execOp, ho]
  go_simp
  exact hK
theorem put_some {X : List Nat} {w : World} {q p : Nat} {T : List Nat} {N : Nat} {ns : List Nd} {A3 : Option Addr} {k3 : Nat} {b1 b2 : Nat} (h : TtP X w q p T N ns (.slice A3 ns.length k3) (some b1) (some b2))
    (op : Int) (nm : ByteArray) (ng : Bool) (nu de : List Nat) (ar : List Int) (so wo : Int) (A B C : Option Addr) (c d e : Nat) {T9 : List Nat} (hA : Rw T9 w A (us nu)) (hB : Rw T9 w B (us de)) (hC : Rw T9 w C (zs ar))
    (lA : ∀ x ∈ nu, x < 18446744073709551616) (lB : ∀ x ∈ de, x < 18446744073709551616) (hf : Fit1 ⟨op, nm, ng, nu, de, ar, so, wo⟩) (hargs : ∀ a ∈ ar, 0 ≤ a ∧ a < (ns.length : Int)) (hnew : ∀ m ∈ ns, kvl m ≠ kvl ⟨op, nm, ng, nu, de, ar, so, wo⟩)
    (hN : N ≤ 100000) (hlen : ns.length < 16384) (hwo : wo = wOf ns op nu ar) (h16 : op = 16 → 0 < ar.length) :
    Calls Tryz.prog 57 #[.pointer (some ⟨q, 0, none⟩), .agg (nv op nm ng A nu.length c B de.length d C ar.length e so)] w fun ee w' => ee = .returned (.tuple #[.int .i64 (ns.length : Int), .int .i64 0]) ∧
      ∃ T' v' m1' m2', TtP X w' q p T' (N + 1) (ns ++ [⟨op, nm, ng, nu, de, ar, so, wo⟩]) v' m1' m2' ∧ Off T w w' ∧ ∀ b ∈ T', b ∈ T ∨ w.heap.size ≤ b := by
  have hX : ∀ b ∈ X, b < w.heap.size := fun b hb => (h.xs b hb).1
  have hk := hide (keyOf_t op nm ng nu de ar so wo A B C c d e (w.alloc (.cells (nv op nm ng A nu.length c B de.length d C ar.length e so) 115)) T9 (hA.next (bel_al _ _)) (hB.next (bel_al _ _)) (hC.next (bel_al _ _)) lA lB (fun x hx => by have := hargs x hx; omega) hf.nu hf.de hf.ar)
  obtain ⟨lk, hlk⟩ := hf.key
  have hlook : ∀ W, Below w.heap.size w W → ∃ cc : Int, (Instr.lookup 138 (.map (some b1)) (kvl ⟨op, nm, ng, nu, de, ar, so, wo⟩) true).run Tryz.prog W = .ok (.tuple #[.int .i64 cc, .bool false]) W := by
    intro W hb
    rcases h.mp with ⟨e, _⟩ | ⟨a1, D1, a2, D2, e1, e2, w1, k1, w2, k2⟩
    · cases e
    cases e1
    obtain ⟨vv, ps, hrun, hv⟩ := (own_off w1 (Off.of_below hb []) (by simp)).look_ok lawK Tryz.underlying138 (zeroI W) (plainElem_int (q := .i64) Tryz.underlying3 (by decide)) hlk
    obtain ⟨cc, rfl, hc, _⟩ := plainElem_int_inv Tryz.underlying3 hv
    have hh : Maps.has D1 lk = false := by
      cases hx : Maps.has D1 lk
      · rfl
      · obtain ⟨m, hm, e⟩ := (k1.has _ _ hlk).1 hx
        exact absurd e (hnew m hm)
    rw [hh] at hrun
    exact ⟨cc, hrun⟩
  have hst : ∀ (w1 : World), Below (w.alloc (.cells (nv op nm ng A nu.length c B de.length d C ar.length e so) 115)).heap.size (w.alloc (.cells (nv op nm ng A nu.length c B de.length d C ar.length e so) 115)) w1 →
      Pm X w T q p T N ns (.slice A3 ns.length k3) (some b1) (some b2) w.heap.size w1.heap.size (nv op nm ng A nu.length c B de.length d C ar.length e so) (kcs ⟨op, nm, ng, nu, de, ar, so, wo⟩) (w1.alloc (.cells (kcs ⟨op, nm, ng, nu, de, ar, so, wo⟩) 149)).drew ∧
      Below w.heap.size w (w1.alloc (.cells (kcs ⟨op, nm, ng, nu, de, ar, so, wo⟩) 149)).drew := fun w1 hb =>
    ⟨pm_start h hb, (((bel_al w _).trans (hb.mono (by simp))).trans ((bel_al w1 _).mono (Nat.le_trans (by simp) hb.size))).trans ((bel_drew _).mono (Nat.le_trans (by simp) (Nat.le_trans hb.size (by simp))))⟩
  have hrows : ∀ W, Below w.heap.size w W → Rw T9 W A (us nu) ∧ Rw T9 W B (us de) ∧ Rw T9 W C (zs ar) := fun W hb => ⟨hA.next hb, hB.next hb, hC.next hb⟩
  have nA := hf.nu
  have nB := hf.de
  have nC := hf.ar
  have hnm := hf.nm
  have hmq : ∀ W, (binOp .eql 138 (.map (some b1)) (.map none)).run Tryz.prog W = .ok (.bool false) W := fun _ => by kernel_rfl
  simp only at nA nB nC hnm
  unfold kvl kcs at hlook hst hk
  simp only at hlook hst hk
  unfold nv at hst hk ⊢
  obtain ⟨n1, hn1⟩ : ∃ n, n = nu.length := ⟨_, rfl⟩
  obtain ⟨n2, hn2⟩ : ∃ n, n = de.length := ⟨_, rfl⟩
  obtain ⟨n3, hn3⟩ : ∃ n, n = ar.length := ⟨_, rfl⟩
  obtain ⟨ln, hln⟩ : ∃ n, n = ns.length := ⟨_, rfl⟩
  rw [← hn1, ← hn2, ← hn3] at hst hk ⊢
  rw [← hln] at hlen ⊢
  have hst2 := hst
  generalize hs1 : pk nu = s1 at hlook hst hk
  generalize hs2 : pk de = s2 at hlook hst hk
  generalize hs3 : pk (ar.map Int.toNat) = s3 at hlook hst hk
  replace hlook := hide hlook; replace hst := hide hst; replace hrows := hide hrows; replace hst2 := hide hst2; replace hn1 := hide hn1; replace hn2 := hide hn2; replace hn3 := hide hn3; replace hln := hide hln; replace hs1 := hide hs1; replace hs2 := hide hs2; replace hs3 := hide hs3
  replace hf := hide hf; replace hargs := hide hargs; replace hnew := hide hnew; replace hwo := hide hwo; replace h16 := hide h16; replace hX := hide hX
  replace nA := hide nA; replace nB := hide nB; replace nC := hide nC; replace hnm := hide hnm; replace lA := hide lA; replace lB := hide lB
  clear hA hB hC h hlk
  go_enter Tryz.func57, Tryz.ntmps57
  go_wp2_with (go_at_call 81; (with_reducible refine (hk.out).mono ?_); rintro ee w1 ⟨rfl, hb1⟩)
  have P2 := (hst.out w1 hb1).1
  obtain ⟨cc, hl⟩ := hlook.out _ (hst.out w1 hb1).2
  have a1 := P2.tt.bk.cell (j := 1) rfl
  have a2 := P2.tt.bk.cell (j := 2) rfl
  rw [← hln.out] at a1
  obtain ⟨y0, y1, y2, y3, y4, y5, y6⟩ := cells7 P2.b1
  replace P2 := hide P2
  replace hb1 := hide hb1
  go_region
  generalize hW2 : (w1.alloc (.cells #[.int .i64 op, .int .i64 so, .string nm, .bool ng, .string s1, .string s2, .string s3] 149)).drew = W2 at *
  have hb2 := (hst.out w1 hb1.out).2
  rw [hW2] at hb2
  obtain ⟨x0, x1, x2, x3, x4, x5, x6⟩ := cells7 P2.out.b0
  clear y0 y1 y2 y3 y4 y5 y6 hl
  obtain ⟨r1, r2, r3⟩ := hrows.out W2 hb2
  have O2 := own_t op nm ng nu de ar so A B C c d e _ T9 r1 r2 r3 nA.out nB.out nC.out
  unfold nv at O2
  rw [← hn1.out, ← hn2.out, ← hn3.out] at O2
  replace O2 := hide O2
  replace hb2 := hide hb2
  have hcl := hide (fun W => str_clone nm W hnm.out)
  have hld : decide (16384 ≤ ln) = false := decide_eq_false (by omega)
  clear r1 r2 r3 hlook hst hW2
  go_wp2_with (first
    | (go_at_call 82; (with_reducible refine (O2.out).mono ?_); rintro ee w3 ⟨A', c', B', d', C', e', rfl, N1, N2, N3, hb3⟩; have P3 := hide (P2.out.next hb3); obtain ⟨x0, x1, x2, x3, x4, x5, x6⟩ := cells7 P3.out.b0; obtain ⟨f0, f1, f2, f3, f4, f5, f6⟩ := free7 P3.out.b0; have P4 := hide (P3.out.s7 (.int .i64 op) (.string nm) (.bool ng) (.slice A' n1 c') (.slice B' n2 d') (.slice C' n3 e') (.int .i64 so)); replace N1 := hide N1; replace N2 := hide N2; replace N3 := hide N3; replace hb3 := hide hb3)
    | (go_at_call 69; (with_reducible refine (hcl.out _).mono ?_); rintro ee w5 ⟨rfl, hb5⟩; have P5 := hide (P4.out.next hb5); obtain ⟨z0, z1, z2, z3, z4, z5, z6⟩ := cells7 P5.out.b0; obtain ⟨k0, k1, k2, k3', k4, k5, k6⟩ := free7 P5.out.b0; have l2 := (cells7 P5.out.b1).2.2.1; have m2 := P5.out.b1.free 2; have e5 := setCell_same (j := 1) (v := .string nm) P5.out.b0 rfl; have e6 := setCell_same (j := 2) (v := .string nm) P5.out.b1 rfl; replace hb5 := hide hb5))
  (try rw [e5, e6])
  clear x0 x1 x2 x3 x4 x5 x6 f0 f1 f2 f3 f4 f5 f6 k0 k1 k2 k3' k4 k5 k6 l2 m2 e5 e6
  have hTl := fun (b : Nat) (hb : b ∈ T ++ (w.heap.size :: w1.heap.size :: X)) => (List.mem_append.1 hb).elim (P2.out.tt.lt b) (fun hx => (P2.out.tt.xs b hx).1)
  have hgm : w.heap.size ∈ T ++ (w.heap.size :: w1.heap.size :: X) := by simp
  have R1 := ((N1.out _ hTl).s7 hgm (.int .i64 op) (.string nm) (.bool ng) (.slice A' n1 c') (.slice B' n2 d') (.slice C' n3 e') (.int .i64 so)).next hb5.out
  have R2 := ((N2.out _ hTl).s7 hgm (.int .i64 op) (.string nm) (.bool ng) (.slice A' n1 c') (.slice B' n2 d') (.slice C' n3 e') (.int .i64 so)).next hb5.out
  have R3 := ((N3.out _ hTl).s7 hgm (.int .i64 op) (.string nm) (.bool ng) (.slice A' n1 c') (.slice B' n2 d') (.slice C' n3 e') (.int .i64 so)).next hb5.out
  replace N1 := hide N1; replace N2 := hide N2; replace N3 := hide N3
  obtain ⟨A9, k9, e9, V5⟩ := P5.out.tt.vw (by omega)
  cases e9
  have hworth := worth_t q k3 A3 ns op nm ng nu de ar so A' B' C' c' d' e' _ w5.drew (V5.next (bel_drew _)) ((R3.next (bel_drew _)).ir) hargs.out (by have := nC.out; omega) (by have := nA.out; omega) h16.out
  rw [← hwo.out] at hworth
  unfold nv at hworth
  rw [← hn1.out, ← hn2.out, ← hn3.out] at hworth
  have hall : ∀ w6, Below w5.drew.heap.size w5.drew w6 → _ := fun w6 hb6 => put_fin hX.out (by have := P5.out.drew.next hb6; unfold kcs; simp only; rw [hs1.out, hs2.out, hs3.out]; exact this) ((R1.next (bel_drew _)).next hb6) ((R2.next (bel_drew _)).next hb6) ((R3.next (bel_drew _)).next hb6) (n := ⟨op, nm, ng, nu, de, ar, so, wo⟩) (c := c') (d := d') (e := e') hf.out hargs.out hnew.out hN (by have := hln.out; omega)
  have hSS : ∀ W, Below w5.heap.size w5 W → W.cell? ⟨q, 1, none⟩ = some (.slice A3 ln k3) ∧ W.cell? ⟨w.heap.size, 0, none⟩ = some (.int .i64 op) ∧ W.cell? ⟨w.heap.size, 1, none⟩ = some (.string nm) ∧ W.cell? ⟨w.heap.size, 2, none⟩ = some (.bool ng) ∧ W.cell? ⟨w.heap.size, 3, none⟩ = some (.slice A' n1 c') ∧ W.cell? ⟨w.heap.size, 4, none⟩ = some (.slice B' n2 d') ∧ W.cell? ⟨w.heap.size, 5, none⟩ = some (.slice C' n3 e') ∧ W.cell? ⟨w.heap.size, 6, none⟩ = some (.int .i64 so) := fun W hb => by
    have P := P5.out.next hb
    refine ⟨?_, cells7 P.b0⟩
    have := P.tt.bk.cell (j := 1) rfl
    rwa [← hln.out] at this
  unfold tcs kvl kcs at hall
  simp only at hall
  simp only [hs1.out, hs2.out, hs3.out, ← hn1.out, ← hn2.out, ← hn3.out, ← hln.out] at hall
  replace hworth := hide hworth; replace hall := hide hall; replace hSS := hide hSS; replace R1 := hide R1; replace R2 := hide R2; replace R3 := hide R3; replace hTl := hide hTl; replace hgm := hide hgm; replace V5 := hide V5
  refine wp_region_T (fun W => W.cell? ⟨q, 1, none⟩ = some (.slice A3 ln k3) ∧ W.cell? ⟨w.heap.size, 0, none⟩ = some (.int .i64 op) ∧ W.cell? ⟨w.heap.size, 1, none⟩ = some (.string nm) ∧ W.cell? ⟨w.heap.size, 2, none⟩ = some (.bool ng) ∧ W.cell? ⟨w.heap.size, 3, none⟩ = some (.slice A' n1 c') ∧ W.cell? ⟨w.heap.size, 4, none⟩ = some (.slice B' n2 d') ∧ W.cell? ⟨w.heap.size, 5, none⟩ = some (.slice C' n3 e') ∧ W.cell? ⟨w.heap.size, 6, none⟩ = some (.int .i64 so)) 14 (by kernel_rfl) (hSS.out _ (bel_drew w5)) (fun hHeld => ?_)
  refine tkT 0 (h := ?_)
  refine tkT 1 (h := ?_)
  refine tkT 2 (h := ?_)
  refine tkT 3 (h := ?_)
  refine tkT 4 (h := ?_)
  refine tkT 5 (h := ?_)
  refine tkT 6 (h := ?_)
  refine tkT 7 (h := ?_)
  refine rdT 8 (h := fun K hK => ?_)
  go_simp
  go_at_call 83; (with_reducible refine (hworth.out).mono ?_); rintro ee w6 ⟨rfl, hb6⟩
  obtain ⟨A9, c9, W9, happ, q9, qf9, b9, hrest⟩ := hall.out w6 hb6
  have hb56 := hide ((bel_drew w5).trans (hb6.mono (Nat.le_refl _)))
  have hb5a := hide (hb56.out.trans ((bel_al w6 (.cells #[.int .i64 op, .string nm, .bool ng, .slice A' n1 c', .slice B' n2 d', .slice C' n3 e', .int .i64 so, .int .i64 wo] 145)).mono hb56.out.size))
  have S9 := hide (And.intro q9 (cells7 b9))
  replace happ := hide happ; replace q9 := hide q9; replace b9 := hide b9; replace hrest := hide hrest; replace hb6 := hide hb6
  (try go_wp2_with fail)
  refine kT hK (by first | exact S9.out | exact hSS.out _ hb5a.out | exact hSS.out _ hb56.out) (h := fun hHeld => ?_)
  (try clear hK K)
  refine tkT 9 (h := ?_)
  refine rdT 10 (h := fun K hK => ?_)
  rw [if_pos (by rfl)]
  refine wp_buildT 61 (.int .i64 op) (.string nm) (.bool ng) (.slice A' n1 c') (.slice B' n2 d') (.slice C' n3 e') (.int .i64 so) (.int .i64 wo) rfl rfl ?_
  refine kT hK (by first | exact S9.out | exact hSS.out _ hb5a.out | exact hSS.out _ hb56.out) (h := fun hHeld => ?_)
  (try clear hK K)
  refine rdT 11 (h := fun K hK => ?_)
  rw [if_pos (by rfl)]
  refine wp_append_run _ (.tmp 56) (.tmp 62) 137 rfl (.slice A3 ln k3) (.slice (some ⟨_, 0, none⟩) 1 1) _ _ rfl rfl happ.out ?_
  refine kT hK (by first | exact S9.out | exact hSS.out _ hb5a.out | exact hSS.out _ hb56.out) (h := fun hHeld => ?_)
  (try clear hK K)
  refine tkT 12 (h := ?_)
  refine tkT 13 (h := ?_)
  refine wpAnyT_ready (rs := [14]) (by kernel_rfl) (by simp) ?_
  refine (AllReadyT.last (by (simp only [List.getElem?_toArray, List.getElem?_cons_zero, List.getElem?_cons_succ]) <;> rfl) (by kernel_rfl) (fun K hK => ?_) AllReadyT.nil)
  go_simp
  refine hK.out _ _ ?_
  (try clear hK K)
  (try simp only [Act.put, List.setIfInBounds_toArray, List.set_cons_zero, List.set_cons_succ])
  refine wpAnyT_done (by kernel_rfl) ?_ _
  skip
  (try clear hHeld)
  obtain ⟨t2, tg1, W10, r10, q10, b10, fin1, fin2⟩ := hrest.out _ rfl
  obtain ⟨y0, y1, y2, y3, y4, y5, y6⟩ := cells7 tg1
  obtain ⟨x0, x1, x2, x3, x4, x5, x6⟩ := cells7 b10
  replace fin1 := hide fin1; replace fin2 := hide fin2; replace hrest := hide hrest; replace S9 := hide S9.out
  clear tg1 b10
  go_wp2
  go_region
  by_cases h12 : op = 12
  · obtain ⟨W11, r11, T', k1, k2, k3⟩ := fin2.out h12
    subst h12
    replace k1 := hide k1; replace k2 := hide k2; replace k3 := hide k3
    go_wp2
    go_region
    go_wp2
    go_ret2
    exact ⟨rfl, T', _, _, _, k1.out, k2.out, k3.out⟩
  · obtain ⟨T', k1, k2, k3⟩ := fin1.out h12
    have h12b : (op == 12) = false := beq_eq_false_iff_ne.2 h12
    replace k1 := hide k1; replace k2 := hide k2; replace k3 := hide k3
    go_wp2
    go_ret2
    exact ⟨rfl, T', _, _, _, k1.out, k2.out, k3.out⟩
theorem put_none {X : List Nat} {w : World} {q p : Nat} {T : List Nat} {N : Nat} {ns : List Nd} {A3 : Option Addr} {k3 : Nat} (h : TtP X w q p T N ns (.slice A3 ns.length k3) none none)
    (op : Int) (nm : ByteArray) (ng : Bool) (nu de : List Nat) (ar : List Int) (so wo : Int) (A B C : Option Addr) (c d e : Nat) (hA : Rw T w A (us nu)) (hB : Rw T w B (us de)) (hC : Rw T w C (zs ar))
    (lA : ∀ x ∈ nu, x < 18446744073709551616) (lB : ∀ x ∈ de, x < 18446744073709551616) (hf : Fit1 ⟨op, nm, ng, nu, de, ar, so, wo⟩) (hargs : ∀ a ∈ ar, 0 ≤ a ∧ a < (ns.length : Int)) (hnew : ∀ m ∈ ns, kvl m ≠ kvl ⟨op, nm, ng, nu, de, ar, so, wo⟩)
    (hN : N ≤ 100000) (hlen : ns.length < 16384) (hwo : wo = wOf ns op nu ar) (h16 : op = 16 → 0 < ar.length) :
    Calls Tryz.prog 57 #[.pointer (some ⟨q, 0, none⟩), .agg (nv op nm ng A nu.length c B de.length d C ar.length e so)] w fun ee w' => ee = .returned (.tuple #[.int .i64 (ns.length : Int), .int .i64 0]) ∧
      ∃ T' v' m1' m2', TtP X w' q p T' (N + 1) (ns ++ [⟨op, nm, ng, nu, de, ar, so, wo⟩]) v' m1' m2' ∧ Off T w w' ∧ ∀ b ∈ T', b ∈ T ∨ w.heap.size ≤ b := by
  have hns : ns = [] := by
    rcases h.mp with ⟨_, _, e⟩ | ⟨_, _, _, _, e, _⟩
    · exact e
    · cases e
  have hX : ∀ b ∈ X, b < w.heap.size := fun b hb => (h.xs b hb).1
  have hk := hide (keyOf_t op nm ng nu de ar so wo A B C c d e (w.alloc (.cells (nv op nm ng A nu.length c B de.length d C ar.length e so) 115)) T (hA.next (bel_al _ _)) (hB.next (bel_al _ _)) (hC.next (bel_al _ _)) lA lB (fun x hx => by have := hargs x hx; omega) hf.nu hf.de hf.ar)
  obtain ⟨lk, hlk⟩ := hf.key
  have hlook : ∀ W, Below w.heap.size w W → ∃ cc : Int, (Instr.lookup 138 (.map none) (kvl ⟨op, nm, ng, nu, de, ar, so, wo⟩) true).run Tryz.prog W = .ok (.tuple #[.int .i64 cc, .bool false]) W := by
    intro W hb
    exact ⟨0, Maps.look_nil true lawK Tryz.underlying138 (zeroI W) hlk⟩
  have hst : ∀ (w1 : World), Below (w.alloc (.cells (nv op nm ng A nu.length c B de.length d C ar.length e so) 115)).heap.size (w.alloc (.cells (nv op nm ng A nu.length c B de.length d C ar.length e so) 115)) w1 →
      Pm X w T q p T N ns (.slice A3 ns.length k3) none none w.heap.size w1.heap.size (nv op nm ng A nu.length c B de.length d C ar.length e so) (kcs ⟨op, nm, ng, nu, de, ar, so, wo⟩) (w1.alloc (.cells (kcs ⟨op, nm, ng, nu, de, ar, so, wo⟩) 149)).drew ∧
      Below w.heap.size w (w1.alloc (.cells (kcs ⟨op, nm, ng, nu, de, ar, so, wo⟩) 149)).drew := fun w1 hb =>
    ⟨pm_start h hb, (((bel_al w _).trans (hb.mono (by simp))).trans ((bel_al w1 _).mono (Nat.le_trans (by simp) hb.size))).trans ((bel_drew _).mono (Nat.le_trans (by simp) (Nat.le_trans hb.size (by simp))))⟩
  have hrows : ∀ W, Below w.heap.size w W → Rw T W A (us nu) ∧ Rw T W B (us de) ∧ Rw T W C (zs ar) := fun W hb => ⟨hA.next hb, hB.next hb, hC.next hb⟩
  have nA := hf.nu
  have nB := hf.de
  have nC := hf.ar
  have hnm := hf.nm
  have hmq : ∀ W, (binOp .eql 138 (.map none) (.map none)).run Tryz.prog W = .ok (.bool true) W := fun _ => by kernel_rfl
  simp only at nA nB nC hnm
  unfold kvl kcs at hlook hst hk
  simp only at hlook hst hk
  unfold nv at hst hk ⊢
  obtain ⟨n1, hn1⟩ : ∃ n, n = nu.length := ⟨_, rfl⟩
  obtain ⟨n2, hn2⟩ : ∃ n, n = de.length := ⟨_, rfl⟩
  obtain ⟨n3, hn3⟩ : ∃ n, n = ar.length := ⟨_, rfl⟩
  obtain ⟨ln, hln⟩ : ∃ n, n = ns.length := ⟨_, rfl⟩
  rw [← hn1, ← hn2, ← hn3] at hst hk ⊢
  rw [← hln] at hlen ⊢
  have hst2 := hst
  generalize hs1 : pk nu = s1 at hlook hst hk
  generalize hs2 : pk de = s2 at hlook hst hk
  generalize hs3 : pk (ar.map Int.toNat) = s3 at hlook hst hk
  replace hlook := hide hlook; replace hst := hide hst; replace hrows := hide hrows; replace hst2 := hide hst2; replace hn1 := hide hn1; replace hn2 := hide hn2; replace hn3 := hide hn3; replace hln := hide hln; replace hs1 := hide hs1; replace hs2 := hide hs2; replace hs3 := hide hs3
  replace hf := hide hf; replace hargs := hide hargs; replace hnew := hide hnew; replace hwo := hide hwo; replace h16 := hide h16; replace hX := hide hX
  replace nA := hide nA; replace nB := hide nB; replace nC := hide nC; replace hnm := hide hnm; replace lA := hide lA; replace lB := hide lB
  clear hA hB hC h hlk
  go_enter Tryz.func57, Tryz.ntmps57
  go_wp2_with (go_at_call 81; (with_reducible refine (hk.out).mono ?_); rintro ee w1 ⟨rfl, hb1⟩)
  have P2 := (hst.out w1 hb1).1
  obtain ⟨cc, hl⟩ := hlook.out _ (hst.out w1 hb1).2
  have a1 := P2.tt.bk.cell (j := 1) rfl
  have a2 := P2.tt.bk.cell (j := 2) rfl
  rw [← hln.out] at a1
  obtain ⟨y0, y1, y2, y3, y4, y5, y6⟩ := cells7 P2.b1
  replace P2 := hide P2
  replace hb1 := hide hb1
  go_region
  generalize hW2 : (w1.alloc (.cells #[.int .i64 op, .int .i64 so, .string nm, .bool ng, .string s1, .string s2, .string s3] 149)).drew = W2 at *
  have hb2 := (hst.out w1 hb1.out).2
  rw [hW2] at hb2
  obtain ⟨x0, x1, x2, x3, x4, x5, x6⟩ := cells7 P2.out.b0
  clear y0 y1 y2 y3 y4 y5 y6 hl
  have hmm := @run_makeMap Tryz.prog
  have hql : q < W2.heap.size := P2.out.tt.lt q P2.out.tt.parts.1
  have hqT : q ∈ T := P2.out.tt.parts.1
  have a3 := P2.out.tt.bk.cell (j := 3) rfl
  have fq2 := P2.out.tt.bk.free 2
  have fq3 := P2.out.tt.bk.free 3
  obtain ⟨T1, PM, OM⟩ := pm_maps P2.out hns
  replace hns := hide hns
  obtain ⟨x0, x1, x2, x3, x4, x5, x6⟩ := cells7 PM.b0
  have hsq : ∀ b ∈ [q], b ∈ T ∨ W2.heap.size ≤ b := by intro b hb; simp at hb; subst hb; exact .inl hqT
  obtain ⟨r1, r2, r3⟩ := hrows.out W2 hb2
  replace r1 : Rw T _ A (us nu) := r1.off OM hsq (fun b hb => .inl hb)
  replace r2 : Rw T _ B (us de) := r2.off OM hsq (fun b hb => .inl hb)
  replace r3 : Rw T _ C (zs ar) := r3.off OM hsq (fun b hb => .inl hb)
  replace PM := hide PM
  clear OM hsq hqT
  have O2 := own_t op nm ng nu de ar so A B C c d e _ T r1 r2 r3 nA.out nB.out nC.out
  unfold nv at O2
  rw [← hn1.out, ← hn2.out, ← hn3.out] at O2
  replace O2 := hide O2
  replace hb2 := hide hb2
  have hcl := hide (fun W => str_clone nm W hnm.out)
  have hld : decide (16384 ≤ ln) = false := decide_eq_false (by omega)
  clear r1 r2 r3 hlook hst hW2
  go_wp2_with (first
    | (go_at_call 82; (with_reducible refine (O2.out).mono ?_); rintro ee w3 ⟨A', c', B', d', C', e', rfl, N1, N2, N3, hb3⟩; have P3 := hide (PM.out.next hb3); obtain ⟨x0, x1, x2, x3, x4, x5, x6⟩ := cells7 P3.out.b0; obtain ⟨f0, f1, f2, f3, f4, f5, f6⟩ := free7 P3.out.b0; have P4 := hide (P3.out.s7 (.int .i64 op) (.string nm) (.bool ng) (.slice A' n1 c') (.slice B' n2 d') (.slice C' n3 e') (.int .i64 so)); replace N1 := hide N1; replace N2 := hide N2; replace N3 := hide N3; replace hb3 := hide hb3)
    | (go_at_call 69; (with_reducible refine (hcl.out _).mono ?_); rintro ee w5 ⟨rfl, hb5⟩; have P5 := hide (P4.out.next hb5); obtain ⟨z0, z1, z2, z3, z4, z5, z6⟩ := cells7 P5.out.b0; obtain ⟨k0, k1, k2, k3', k4, k5, k6⟩ := free7 P5.out.b0; have l2 := (cells7 P5.out.b1).2.2.1; have m2 := P5.out.b1.free 2; have e5 := setCell_same (j := 1) (v := .string nm) P5.out.b0 rfl; have e6 := setCell_same (j := 2) (v := .string nm) P5.out.b1 rfl; replace hb5 := hide hb5))
  (try rw [e5, e6])
  clear x0 x1 x2 x3 x4 x5 x6 f0 f1 f2 f3 f4 f5 f6 k0 k1 k2 k3' k4 k5 k6 l2 m2 e5 e6
  have hTl := fun (b : Nat) (hb : b ∈ T1 ++ (w.heap.size :: w1.heap.size :: X)) => (List.mem_append.1 hb).elim (PM.out.tt.lt b) (fun hx => (PM.out.tt.xs b hx).1)
  have hgm : w.heap.size ∈ T1 ++ (w.heap.size :: w1.heap.size :: X) := by simp
  have R1 := ((N1.out _ hTl).s7 hgm (.int .i64 op) (.string nm) (.bool ng) (.slice A' n1 c') (.slice B' n2 d') (.slice C' n3 e') (.int .i64 so)).next hb5.out
  have R2 := ((N2.out _ hTl).s7 hgm (.int .i64 op) (.string nm) (.bool ng) (.slice A' n1 c') (.slice B' n2 d') (.slice C' n3 e') (.int .i64 so)).next hb5.out
  have R3 := ((N3.out _ hTl).s7 hgm (.int .i64 op) (.string nm) (.bool ng) (.slice A' n1 c') (.slice B' n2 d') (.slice C' n3 e') (.int .i64 so)).next hb5.out
  replace N1 := hide N1; replace N2 := hide N2; replace N3 := hide N3
  obtain ⟨A9, k9, e9, V5⟩ := P5.out.tt.vw (by omega)
  cases e9
  have hworth := worth_t q k3 A3 ns op nm ng nu de ar so A' B' C' c' d' e' _ w5.drew (V5.next (bel_drew _)) ((R3.next (bel_drew _)).ir) hargs.out (by have := nC.out; omega) (by have := nA.out; omega) h16.out
  rw [← hwo.out] at hworth
  unfold nv at hworth
  rw [← hn1.out, ← hn2.out, ← hn3.out] at hworth
  have hall : ∀ w6, Below w5.drew.heap.size w5.drew w6 → _ := fun w6 hb6 => put_fin hX.out (by have := P5.out.drew.next hb6; unfold kcs; simp only; rw [hs1.out, hs2.out, hs3.out]; exact this) ((R1.next (bel_drew _)).next hb6) ((R2.next (bel_drew _)).next hb6) ((R3.next (bel_drew _)).next hb6) (n := ⟨op, nm, ng, nu, de, ar, so, wo⟩) (c := c') (d := d') (e := e') hf.out hargs.out hnew.out hN (by have := hln.out; omega)
  have hSS : ∀ W, Below w5.heap.size w5 W → W.cell? ⟨q, 1, none⟩ = some (.slice A3 ln k3) ∧ W.cell? ⟨w.heap.size, 0, none⟩ = some (.int .i64 op) ∧ W.cell? ⟨w.heap.size, 1, none⟩ = some (.string nm) ∧ W.cell? ⟨w.heap.size, 2, none⟩ = some (.bool ng) ∧ W.cell? ⟨w.heap.size, 3, none⟩ = some (.slice A' n1 c') ∧ W.cell? ⟨w.heap.size, 4, none⟩ = some (.slice B' n2 d') ∧ W.cell? ⟨w.heap.size, 5, none⟩ = some (.slice C' n3 e') ∧ W.cell? ⟨w.heap.size, 6, none⟩ = some (.int .i64 so) := fun W hb => by
    have P := P5.out.next hb
    refine ⟨?_, cells7 P.b0⟩
    have := P.tt.bk.cell (j := 1) rfl
    rwa [← hln.out] at this
  unfold tcs kvl kcs at hall
  simp only at hall
  simp only [hs1.out, hs2.out, hs3.out, ← hn1.out, ← hn2.out, ← hn3.out, ← hln.out] at hall
  replace hworth := hide hworth; replace hall := hide hall; replace hSS := hide hSS; replace R1 := hide R1; replace R2 := hide R2; replace R3 := hide R3; replace hTl := hide hTl; replace hgm := hide hgm; replace V5 := hide V5
  refine wp_region_T (fun W => W.cell? ⟨q, 1, none⟩ = some (.slice A3 ln k3) ∧ W.cell? ⟨w.heap.size, 0, none⟩ = some (.int .i64 op) ∧ W.cell? ⟨w.heap.size, 1, none⟩ = some (.string nm) ∧ W.cell? ⟨w.heap.size, 2, none⟩ = some (.bool ng) ∧ W.cell? ⟨w.heap.size, 3, none⟩ = some (.slice A' n1 c') ∧ W.cell? ⟨w.heap.size, 4, none⟩ = some (.slice B' n2 d') ∧ W.cell? ⟨w.heap.size, 5, none⟩ = some (.slice C' n3 e') ∧ W.cell? ⟨w.heap.size, 6, none⟩ = some (.int .i64 so)) 14 (by kernel_rfl) (hSS.out _ (bel_drew w5)) (fun hHeld => ?_)
  refine tkT 0 (h := ?_)
  refine tkT 1 (h := ?_)
  refine tkT 2 (h := ?_)
  refine tkT 3 (h := ?_)
  refine tkT 4 (h := ?_)
  refine tkT 5 (h := ?_)
  refine tkT 6 (h := ?_)
  refine tkT 7 (h := ?_)
  refine rdT 8 (h := fun K hK => ?_)
  go_simp
  go_at_call 83; (with_reducible refine (hworth.out).mono ?_); rintro ee w6 ⟨rfl, hb6⟩
  obtain ⟨A9, c9, W9, happ, q9, qf9, b9, hrest⟩ := hall.out w6 hb6
  have hb56 := hide ((bel_drew w5).trans (hb6.mono (Nat.le_refl _)))
  have hb5a := hide (hb56.out.trans ((bel_al w6 (.cells #[.int .i64 op, .string nm, .bool ng, .slice A' n1 c', .slice B' n2 d', .slice C' n3 e', .int .i64 so, .int .i64 wo] 145)).mono hb56.out.size))
  have S9 := hide (And.intro q9 (cells7 b9))
  replace happ := hide happ; replace q9 := hide q9; replace b9 := hide b9; replace hrest := hide hrest; replace hb6 := hide hb6
  (try go_wp2_with fail)
  refine kT hK (by first | exact S9.out | exact hSS.out _ hb5a.out | exact hSS.out _ hb56.out) (h := fun hHeld => ?_)
  (try clear hK K)
  refine tkT 9 (h := ?_)
  refine rdT 10 (h := fun K hK => ?_)
  rw [if_pos (by rfl)]
  refine wp_buildT 61 (.int .i64 op) (.string nm) (.bool ng) (.slice A' n1 c') (.slice B' n2 d') (.slice C' n3 e') (.int .i64 so) (.int .i64 wo) rfl rfl ?_
  refine kT hK (by first | exact S9.out | exact hSS.out _ hb5a.out | exact hSS.out _ hb56.out) (h := fun hHeld => ?_)
  (try clear hK K)
  refine rdT 11 (h := fun K hK => ?_)
  rw [if_pos (by rfl)]
  refine wp_append_run _ (.tmp 56) (.tmp 62) 137 rfl (.slice A3 ln k3) (.slice (some ⟨_, 0, none⟩) 1 1) _ _ rfl rfl happ.out ?_
  refine kT hK (by first | exact S9.out | exact hSS.out _ hb5a.out | exact hSS.out _ hb56.out) (h := fun hHeld => ?_)
  (try clear hK K)
  refine tkT 12 (h := ?_)
  refine tkT 13 (h := ?_)
  refine wpAnyT_ready (rs := [14]) (by kernel_rfl) (by simp) ?_
  refine (AllReadyT.last (by (simp only [List.getElem?_toArray, List.getElem?_cons_zero, List.getElem?_cons_succ]) <;> rfl) (by kernel_rfl) (fun K hK => ?_) AllReadyT.nil)
  go_simp
  refine hK.out _ _ ?_
  (try clear hK K)
  (try simp only [Act.put, List.setIfInBounds_toArray, List.set_cons_zero, List.set_cons_succ])
  refine wpAnyT_done (by kernel_rfl) ?_ _
  skip
  (try clear hHeld)
  obtain ⟨t2, tg1, W10, r10, q10, b10, fin1, fin2⟩ := hrest.out _ rfl
  obtain ⟨y0, y1, y2, y3, y4, y5, y6⟩ := cells7 tg1
  obtain ⟨x0, x1, x2, x3, x4, x5, x6⟩ := cells7 b10
  replace fin1 := hide fin1; replace fin2 := hide fin2; replace hrest := hide hrest; replace S9 := hide S9.out
  clear tg1 b10
  go_wp2
  go_region
  by_cases h12 : op = 12
  · obtain ⟨W11, r11, T', k1, k2, k3⟩ := fin2.out h12
    subst h12
    replace k1 := hide k1; replace k2 := hide k2; replace k3 := hide k3
    go_wp2
    go_region
    go_wp2
    go_ret2
    exact ⟨rfl, T', _, _, _, k1.out, k2.out, k3.out⟩
  · obtain ⟨T', k1, k2, k3⟩ := fin1.out h12
    have h12b : (op == 12) = false := beq_eq_false_iff_ne.2 h12
    replace k1 := hide k1; replace k2 := hide k2; replace k3 := hide k3
    go_wp2
    go_ret2
    exact ⟨rfl, T', _, _, _, k1.out, k2.out, k3.out⟩
theorem tt_put {X : List Nat} {B : Nat} {w0 w : World} {q N : Nat} {so fu : List (ByteArray × Nat)} {ty : List Fn} {ns : List Nd} (h : Tt X B w0 w q N so fu ty ns)
    (op : Int) (nm : ByteArray) (ng : Bool) (nu de : List Nat) (ar : List Int) (s : Int) (A B' C : Option Addr) (c d e : Nat) (hA : Rx X B w A (us nu)) (hB : Rx X B w B' (us de)) (hC : Rx X B w C (zs ar))
    (lA : ∀ x ∈ nu, x < 18446744073709551616) (lB : ∀ x ∈ de, x < 18446744073709551616) (hf : Fit1 ⟨op, nm, ng, nu, de, ar, s, wOf ns op nu ar⟩) (hargs : ∀ a ∈ ar, 0 ≤ a ∧ a < (ns.length : Int)) (hnew : ∀ m ∈ ns, kvl m ≠ kvl ⟨op, nm, ng, nu, de, ar, s, 0⟩)
    (hN : N ≤ 100000) (hlen : ns.length < 16384) (h16 : op = 16 → 0 < ar.length) :
    Calls Tryz.prog 57 #[.pointer (some ⟨q, 0, none⟩), .agg (nv op nm ng A nu.length c B' de.length d C ar.length e s)] w fun ee w' => ee = .returned (.tuple #[.int .i64 (ns.length : Int), .int .i64 0]) ∧
      Tt X B w0 w' q (N + 1) so fu ty (ns ++ [⟨op, nm, ng, nu, de, ar, s, wOf ns op nu ar⟩]) ∧ Same X w w' := by
  obtain ⟨p, T, v, m1, m2, h1, h2, h3⟩ := h
  have hXT : ∀ b ∈ X, b ∉ T := fun b hb => (h1.xs b hb).2
  obtain ⟨A3, k3, rfl, _⟩ := h1.vw (by omega)
  rcases h1.mp with ⟨rfl, rfl, _⟩ | ⟨b1, D1, b2, D2, rfl, rfl, _⟩
  · refine (put_none h1 op nm ng nu de ar s _ A B' C c d e (hA.rw hXT h3) (hB.rw hXT h3) (hC.rw hXT h3) lA lB hf hargs hnew hN hlen rfl h16).mono fun ee w' ⟨he, T', v', m1', m2', k1, k2, k3⟩ => ⟨he, Tt.step h1 h2 h3 k1 k2 k3⟩
  · refine (put_some h1 op nm ng nu de ar s _ A B' C c d e (hA.rw hXT h3) (hB.rw hXT h3) (hC.rw hXT h3) lA lB hf hargs hnew hN hlen rfl h16).mono fun ee w' ⟨he, T', v', m1', m2', k1, k2, k3⟩ => ⟨he, Tt.step h1 h2 h3 k1 k2 k3⟩
theorem tt_putS {X : List Nat} {B : Nat} {w0 w : World} {q N : Nat} {so fu : List (ByteArray × Nat)} {ty : List Fn} {ns : List Nd} (h : Tt X B w0 w q N so fu ty ns) (hns : ns ≠ [])
    (op : Int) (nm : ByteArray) (ng : Bool) (nu de : List Nat) (ar : List Int) (s : Int) (A B' C : Option Addr) (c d e : Nat) (hA : Rw [] w A (us nu)) (hB : Rw [] w B' (us de)) (hC : Rw [] w C (zs ar))
    (lA : ∀ x ∈ nu, x < 18446744073709551616) (lB : ∀ x ∈ de, x < 18446744073709551616) (hf : Fit1 ⟨op, nm, ng, nu, de, ar, s, wOf ns op nu ar⟩) (hargs : ∀ a ∈ ar, 0 ≤ a ∧ a < (ns.length : Int)) (hnew : ∀ m ∈ ns, kvl m ≠ kvl ⟨op, nm, ng, nu, de, ar, s, 0⟩)
    (hN : N ≤ 100000) (hlen : ns.length < 16384) (h16 : op = 16 → 0 < ar.length) :
    Calls Tryz.prog 57 #[.pointer (some ⟨q, 0, none⟩), .agg (nv op nm ng A nu.length c B' de.length d C ar.length e s)] w fun ee w' => ee = .returned (.tuple #[.int .i64 (ns.length : Int), .int .i64 0]) ∧
      Tt X B w0 w' q (N + 1) so fu ty (ns ++ [⟨op, nm, ng, nu, de, ar, s, wOf ns op nu ar⟩]) ∧ Same X w w' := by
  obtain ⟨p, T, v, m1, m2, h1, h2, h3⟩ := h
  obtain ⟨A3, k3, rfl, _⟩ := h1.vw (by omega)
  rcases h1.mp with ⟨_, _, e⟩ | ⟨b1, D1, b2, D2, rfl, rfl, _⟩
  · exact absurd e hns
  · refine (put_some h1 op nm ng nu de ar s _ A B' C c d e hA hB hC lA lB hf hargs hnew hN hlen rfl h16).mono fun ee w' ⟨he, T', v', m1', m2', k1, k2, k3⟩ => ⟨he, Tt.step h1 h2 h3 k1 k2 k3⟩
theorem allH_step {n : Nat} {ar : List Int} {k : Nat} (hk : k < ar.length) (h : (ar.take k).all (hasT n) = true) (hx : hasT n (ar.getD k 0) = true) : (ar.take (k + 1)).all (hasT n) = true := by
  rw [List.take_add_one, List.all_append, h, List.getElem?_eq_getElem hk]
  have : ar.getD k 0 = ar[k] := by simp [List.getD, List.getElem?_eq_getElem hk]
  rw [this] at hx
  simp [hx]
theorem allH_stop {n : Nat} {ar : List Int} {k : Nat} (hk : k < ar.length) (hx : hasT n (ar.getD k 0) = false) : ar.all (hasT n) = false := by
  have : ar.getD k 0 = ar[k] := by simp [List.getD, List.getElem?_eq_getElem hk]
  rw [this] at hx
  exact List.all_eq_false.2 ⟨ar[k], List.getElem_mem hk, by simp [hx]⟩
theorem wf_num (w : World) (q cc : Nat) (A0 : Option Addr) (n : Nat) (hq : w.cell? ⟨q, 1, none⟩ = some (.slice A0 n cc)) (ng : Bool) (nu de : List Nat) (A B : Option Addr) (c d : Nat) (sA : Sl w A nu) (sB : Sl w B de) (lA : Limbs nu) (lB : Limbs de) (nA : nu.length ≤ 64) (nB : de.length ≤ 64) (hv : validQ ng nu de = true) (C : Option Addr) (ar : List Int) (e : Nat) (T : List Nat) (hC : Ir T w C ar) (nC : ar.length ≤ 64) :
    Calls Tryz.prog 55 #[.pointer (some ⟨q, 0, none⟩), .int .i64 11, .string ⟨#[]⟩, .agg #[.bool ng, .slice A nu.length c, .slice B de.length d], .slice C ar.length e] w fun ee w' => ee = .returned (.bool (ar.all (hasT n))) ∧ Below w.heap.size w w' := by
  obtain ⟨b, hb⟩ : ∃ b, b = ar.all (hasT n) := ⟨_, rfl⟩
  rw [← hb]
  replace hb := hide hb
  obtain ⟨m, hm⟩ : ∃ m, m = ar.length := ⟨_, rfl⟩
  have nm64 : m ≤ 64 := by omega
  rw [← hm]
  replace hm := hide hm
  have hb0 : Below w.heap.size w (w.alloc (.cells #[.bool ng, .slice A nu.length c, .slice B de.length d] 28)) := bel_al _ _
  have hBk : Bk w.heap.size #[.bool ng, .slice A nu.length c, .slice B de.length d] 28 (w.alloc (.cells #[.bool ng, .slice A nu.length c, .slice B de.length d] 28)) := Bk.new _ _ _
  have hval : ∀ W, Below w.heap.size w W → Calls Tryz.prog 75 #[.agg #[.bool ng, .slice A nu.length c, .slice B de.length d]] W fun ee w' => ee = .returned (.bool true) ∧ Below W.heap.size W w' := fun W hb =>
    validQ_any ng A B c d nu de W (kp' hb sA) (kp' hb sB) lA lB (by omega) (by omega) true hv
  have hval0 := hide (hval _ hb0)
  have hk : ∀ w1, Below (w.alloc (.cells #[.bool ng, .slice A nu.length c, .slice B de.length d] 28)).heap.size (w.alloc (.cells #[.bool ng, .slice A nu.length c, .slice B de.length d] 28)) w1 → Below w.heap.size w w1 := fun w1 h => hb0.trans (h.mono hb0.size)
  have hhas0 := hide (fun w1 (h : Below w.heap.size w w1) (x : Int) => has_t q n cc A0 x w1 ((h.cell (p := ⟨q, 1, none⟩) (cell_in hq)).trans hq))
  have hcell0 := hide (fun w1 (h : Below w.heap.size w w1) (k : Nat) (hk : k < ar.length) => (show ∃ b o, C = some ⟨b, o, none⟩ ∧ w1.cell? ⟨b, o + k, none⟩ = some (.int .i64 (ar.getD k 0)) from by
    rcases hC.off (T' := T) (Off.of_below h []) (by simp) (fun b hb => .inl hb) with he | ⟨b, o, e1, _, _, hc⟩
    · rw [he] at hk; simp at hk
    · exact ⟨b, o, e1, hc k hk⟩))
  replace hk := hide hk
  clear hval hC hq sA sB lA lB hv hBk nC
  generalize nu.length = n1 at *
  generalize de.length = n2 at *
  go_enter Tryz.func55, Tryz.ntmps55
  go_wp2_with (go_at_call 75; (with_reducible refine hval0.out.mono ?_); rintro ee w1 ⟨rfl, hb1⟩; have hhas := hide (hhas0.out w1 (hk.out w1 hb1)); have hcell := hide (hcell0.out w1 (hk.out w1 hb1)); have hbl := hide (hk.out w1 hb1); clear hb1)
  go_loop [61] (fun i => ∃ k : Nat, k ≤ m ∧ i = .int .i64 (k : Int) ∧ (ar.take k).all (hasT n) = true) (fun i => m - (intOf i).toNat)
  case atStart => exact ⟨0, Nat.zero_le _, rfl, rfl⟩
  case round =>
    obtain ⟨k, hk, rfl, hall⟩ := hrel
    by_cases hlt : k < m
    · have hkl : k < ar.length := by rw [← hm.out]; exact hlt
      obtain ⟨b', o, rfl, hc⟩ := hcell.out k hkl
      have hst := hide (allH_step (n := n) hkl hall)
      have hsp := hide (allH_stop (n := n) (ar := ar) hkl)
      have hh := hhas.out (ar.getD k 0)
      clear hall
      generalize ar.getD k 0 = x at hc hst hsp hh
      cases hx : hasT n x
      · rw [hx] at hh
        have : b = false := by rw [hb.out, hsp.out hx]
        subst this
        go_wp2_with (go_at_call 76; (with_reducible refine hh.mono ?_); rintro ee w' ⟨rfl, rfl⟩)
        go_ret
        exact ⟨rfl, hbl.out⟩
      · rw [hx] at hh
        have hnx := hide (hst.out hx)
        go_wp2_with (go_at_call 76; (with_reducible refine hh.mono ?_); rintro ee w' ⟨rfl, rfl⟩)
        go_round
        case rel => exact ⟨k + 1, hlt, rfl, hnx.out⟩
        case measure => simp only [intOf]; omega
    · have hkm : k = m := by omega
      subst hkm
      have : b = true := by
        rw [hb.out, ← hall, hm.out, List.take_length]
      subst this
      clear hall
      go_wp2
      go_ret
      exact ⟨rfl, hbl.out⟩
theorem wf_app (w : World) (q cc : Nat) (A0 : Option Addr) (n : Nat) (hq : w.cell? ⟨q, 1, none⟩ = some (.slice A0 n cc)) (nm : ByteArray) (A B : Option Addr) (c d : Nat) (C : Option Addr) (ar : List Int) (e : Nat) (T : List Nat) (hC : Ir T w C ar) (nC : ar.length ≤ 64) :
    Calls Tryz.prog 55 #[.pointer (some ⟨q, 0, none⟩), .int .i64 12, .string nm, .agg #[.bool false, .slice A 0 c, .slice B 0 d], .slice C ar.length e] w fun ee w' => ee = .returned (.bool (ar.all (hasT n))) ∧ Below w.heap.size w w' := by
  obtain ⟨b, hb⟩ : ∃ b, b = ar.all (hasT n) := ⟨_, rfl⟩
  rw [← hb]
  replace hb := hide hb
  obtain ⟨m, hm⟩ : ∃ m, m = ar.length := ⟨_, rfl⟩
  have nm64 : m ≤ 64 := by omega
  rw [← hm]
  replace hm := hide hm
  have hb0 : Below w.heap.size w (w.alloc (.cells #[.bool false, .slice A 0 c, .slice B 0 d] 28)) := bel_al _ _
  have hBk : Bk w.heap.size #[.bool false, .slice A 0 c, .slice B 0 d] 28 (w.alloc (.cells #[.bool false, .slice A 0 c, .slice B 0 d] 28)) := Bk.new _ _ _
  have hhas := hide (fun (x : Int) => has_t q n cc A0 x _ ((hb0.cell (p := ⟨q, 1, none⟩) (cell_in hq)).trans hq))
  have hcell := hide (fun (k : Nat) (hk : k < ar.length) => (show ∃ b o, C = some ⟨b, o, none⟩ ∧ (w.alloc (.cells #[.bool false, .slice A 0 c, .slice B 0 d] 28)).cell? ⟨b, o + k, none⟩ = some (.int .i64 (ar.getD k 0)) from by
    rcases hC.off (T' := T) (Off.of_below hb0 []) (by simp) (fun b hb => .inl hb) with he | ⟨b, o, e1, _, _, hc⟩
    · rw [he] at hk; simp at hk
    · exact ⟨b, o, e1, hc k hk⟩))
  have hbl := hide hb0
  clear hb0 hC hq hBk nC
  go_enter Tryz.func55, Tryz.ntmps55
  go_wp2
  go_loop [61] (fun i => ∃ k : Nat, k ≤ m ∧ i = .int .i64 (k : Int) ∧ (ar.take k).all (hasT n) = true) (fun i => m - (intOf i).toNat)
  case atStart => exact ⟨0, Nat.zero_le _, rfl, rfl⟩
  case round =>
    obtain ⟨k, hk, rfl, hall⟩ := hrel
    by_cases hlt : k < m
    · have hkl : k < ar.length := by rw [← hm.out]; exact hlt
      obtain ⟨b', o, rfl, hc⟩ := hcell.out k hkl
      have hst := hide (allH_step (n := n) hkl hall)
      have hsp := hide (allH_stop (n := n) (ar := ar) hkl)
      have hh := hhas.out (ar.getD k 0)
      clear hall
      generalize ar.getD k 0 = x at hc hst hsp hh
      cases hx : hasT n x
      · rw [hx] at hh
        have : b = false := by rw [hb.out, hsp.out hx]
        subst this
        go_wp2_with (go_at_call 76; (with_reducible refine hh.mono ?_); rintro ee w' ⟨rfl, rfl⟩)
        go_ret
        exact ⟨rfl, hbl.out⟩
      · rw [hx] at hh
        have hnx := hide (hst.out hx)
        go_wp2_with (go_at_call 76; (with_reducible refine hh.mono ?_); rintro ee w' ⟨rfl, rfl⟩)
        go_round
        case rel => exact ⟨k + 1, hlt, rfl, hnx.out⟩
        case measure => simp only [intOf]; omega
    · have hkm : k = m := by omega
      subst hkm
      have : b = true := by
        rw [hb.out, ← hall, hm.out, List.take_length]
      subst this
      clear hall
      go_wp2
      go_ret
      exact ⟨rfl, hbl.out⟩
theorem wf_oth (w : World) (q cc : Nat) (A0 : Option Addr) (n : Nat) (hq : w.cell? ⟨q, 1, none⟩ = some (.slice A0 n cc)) (op : Int) (h1 : 1 ≤ op) (h2 : op ≤ 20) (h3 : op ≠ 11) (h4 : op ≠ 12) (A B : Option Addr) (c d : Nat) (C : Option Addr) (ar : List Int) (e : Nat) (T : List Nat) (hC : Ir T w C ar) (nC : ar.length ≤ 64) :
    Calls Tryz.prog 55 #[.pointer (some ⟨q, 0, none⟩), .int .i64 op, .string ⟨#[]⟩, .agg #[.bool false, .slice A 0 c, .slice B 0 d], .slice C ar.length e] w fun ee w' => ee = .returned (.bool (ar.all (hasT n))) ∧ Below w.heap.size w w' := by
  obtain ⟨b, hb⟩ : ∃ b, b = ar.all (hasT n) := ⟨_, rfl⟩
  rw [← hb]
  replace hb := hide hb
  obtain ⟨m, hm⟩ : ∃ m, m = ar.length := ⟨_, rfl⟩
  have nm64 : m ≤ 64 := by omega
  rw [← hm]
  replace hm := hide hm
  have hb0 : Below w.heap.size w (w.alloc (.cells #[.bool false, .slice A 0 c, .slice B 0 d] 28)) := bel_al _ _
  have hBk : Bk w.heap.size #[.bool false, .slice A 0 c, .slice B 0 d] 28 (w.alloc (.cells #[.bool false, .slice A 0 c, .slice B 0 d] 28)) := Bk.new _ _ _
  have hhas := hide (fun (x : Int) => has_t q n cc A0 x _ ((hb0.cell (p := ⟨q, 1, none⟩) (cell_in hq)).trans hq))
  have hcell := hide (fun (k : Nat) (hk : k < ar.length) => (show ∃ b o, C = some ⟨b, o, none⟩ ∧ (w.alloc (.cells #[.bool false, .slice A 0 c, .slice B 0 d] 28)).cell? ⟨b, o + k, none⟩ = some (.int .i64 (ar.getD k 0)) from by
    rcases hC.off (T' := T) (Off.of_below hb0 []) (by simp) (fun b hb => .inl hb) with he | ⟨b, o, e1, _, _, hc⟩
    · rw [he] at hk; simp at hk
    · exact ⟨b, o, e1, hc k hk⟩))
  have hbl := hide hb0
  clear hb0 hC hq hBk nC
  have g1 : decide (op < 1) = false := decide_eq_false (by omega)
  have g2 : decide (20 < op) = false := decide_eq_false (by omega)
  have g3 : (op == 11) = false := beq_eq_false_iff_ne.2 h3
  have g4 : (op == 12) = false := beq_eq_false_iff_ne.2 h4
  have g5 : (op != 11) = true := by simpa using h3
  have g6 : (op != 12) = true := by simpa using h4
  go_enter Tryz.func55, Tryz.ntmps55
  go_wp2
  go_loop [61] (fun i => ∃ k : Nat, k ≤ m ∧ i = .int .i64 (k : Int) ∧ (ar.take k).all (hasT n) = true) (fun i => m - (intOf i).toNat)
  case atStart => exact ⟨0, Nat.zero_le _, rfl, rfl⟩
  case round =>
    obtain ⟨k, hk, rfl, hall⟩ := hrel
    by_cases hlt : k < m
    · have hkl : k < ar.length := by rw [← hm.out]; exact hlt
      obtain ⟨b', o, rfl, hc⟩ := hcell.out k hkl
      have hst := hide (allH_step (n := n) hkl hall)
      have hsp := hide (allH_stop (n := n) (ar := ar) hkl)
      have hh := hhas.out (ar.getD k 0)
      clear hall
      generalize ar.getD k 0 = x at hc hst hsp hh
      cases hx : hasT n x
      · rw [hx] at hh
        have : b = false := by rw [hb.out, hsp.out hx]
        subst this
        go_wp2_with (go_at_call 76; (with_reducible refine hh.mono ?_); rintro ee w' ⟨rfl, rfl⟩)
        go_ret
        exact ⟨rfl, hbl.out⟩
      · rw [hx] at hh
        have hnx := hide (hst.out hx)
        go_wp2_with (go_at_call 76; (with_reducible refine hh.mono ?_); rintro ee w' ⟨rfl, rfl⟩)
        go_round
        case rel => exact ⟨k + 1, hlt, rfl, hnx.out⟩
        case measure => simp only [intOf]; omega
    · have hkm : k = m := by omega
      subst hkm
      have : b = true := by
        rw [hb.out, ← hall, hm.out, List.take_length]
      subst this
      clear hall
      go_wp2
      go_ret
      exact ⟨rfl, hbl.out⟩
section
variable {w : World} {q cc : Nat} {A0 : Option Addr} {ns : List Nd} {C : Option Addr} {ar : List Int} {e : Nat} {T : List Nat}
def allB (ns : List Nd) (s : Int) (ar : List Int) : Bool := ar.all fun a => soAt ns a == s
theorem slice_tail {C : Option Addr} {ar : List Int} {k : Nat} (hC : Ir T w C ar) (hk : k ≤ ar.length) : ∀ b o, C = some ⟨b, o, none⟩ → Ir T w (some ⟨b, o + k, none⟩) (ar.drop k) := by
  rintro b o rfl
  rcases hC with h | ⟨b', o', e, h1, h2, h3⟩
  · subst h; exact .inl (by simp)
  · cases e
    refine .inr ⟨b, o + k, rfl, h1, h2, fun j hj => ?_⟩
    rw [List.length_drop] at hj
    have := h3 (k + j) (by omega)
    rw [Nat.add_assoc, this]
    simp [List.getD, List.getElem?_drop]
theorem slice_head {C : Option Addr} {ar : List Int} {k : Nat} (hC : Ir T w C ar) : Ir T w C (ar.take k) := by
  rcases hC with h | ⟨b', o', e, h1, h2, h3⟩
  · subst h; exact .inl (by simp)
  · refine .inr ⟨b', o', e, h1, h2, fun j hj => ?_⟩
    rw [List.length_take] at hj
    rw [h3 j (by omega)]
    congr 2
    simp only [List.getD, List.getElem?_take]
    rw [if_pos (by omega)]
def recB (ns : List Nd) (op : Int) (ar : List Int) : Bool :=
  decide (1 ≤ ar.length) && (decide (op = 14) || decide (2 ≤ ar.length)) && allB ns 1 ar && (if op = 15 then decide (cntT ns 0 ar ≤ 1) else if op = 16 then decide (cntT ns 2 (ar.drop 1) = ar.length - 1) else true)
theorem reckoned_t (op : Int) (h : Vw w q A0 cc ns) (hC : Ir T w C ar) (hin : ∀ a ∈ ar, 0 ≤ a ∧ a < (ns.length : Int)) (hl : ar.length ≤ 64) (hcap : ar.length ≤ e) (he : e ≤ maxLen) (hop : op = 13 ∨ op = 14 ∨ op = 15 ∨ op = 16) :
    Calls Tryz.prog 80 #[.pointer (some ⟨q, 0, none⟩), .int .i64 op, .slice C ar.length e] w fun ee w' => ee = .returned (.bool (recB ns op ar)) ∧ w = w' := by
  obtain ⟨b, hb⟩ : ∃ b, b = recB ns op ar := ⟨_, rfl⟩
  rw [← hb]
  unfold recB at hb
  unfold maxLen at he
  have hall := all_t q cc A0 ns 1 C ar e T w h hC hin (by omega)
  rw [show (ar.all fun a => soAt ns a == 1) = allB ns 1 ar from rfl] at hall
  have hcnt := count_t q cc A0 ns 0 C ar e T w h hC hin (by omega)
  have hcnt2 : ∀ b o, C = some ⟨b, o, none⟩ → 1 ≤ ar.length → Calls Tryz.prog 103 #[.pointer (some ⟨q, 0, none⟩), .int .i64 2, .slice (some ⟨b, o + 1, none⟩) (ar.drop 1).length (e - 1)] w fun ee w' => ee = .returned (.int .i64 (cntT ns 2 (ar.drop 1) : Int)) ∧ w = w' := fun b o hb h1 =>
    count_t q cc A0 ns 2 _ (ar.drop 1) (e - 1) T w h (slice_tail hC h1 b o hb) (fun a ha => hin a (List.mem_of_mem_drop ha)) (by rw [List.length_drop]; omega)
  have hcl := cntT_le (ns := ns) (u := 0) (ar := ar)
  have hcl2 := cntT_le (ns := ns) (u := 2) (ar := ar.drop 1)
  rw [List.length_drop] at hcl2
  have hC2 : 1 ≤ ar.length → ∃ b o, C = some ⟨b, o, none⟩ := fun h1 => by
    rcases hC with e | ⟨b, o, e, _⟩
    · rw [e] at h1; simp at h1
    · exact ⟨b, o, e⟩
  rw [List.length_drop] at hcnt2
  clear h hC hin
  generalize hx : allB ns 1 ar = x at *
  generalize cntT ns 0 ar = n0 at *
  generalize cntT ns 2 (ar.drop 1) = n2 at *
  generalize ar.length = m at *
  clear hx
  by_cases m0 : m = 0
  · subst m0
    have : b = false := by rw [hb]; simp
    subst this
    clear hb hcnt hcnt2 hall hop
    go_enter Tryz.func80, Tryz.ntmps80
    go_wp2
    go_ret
    exact ⟨rfl, rfl⟩
  have g0 : ((m : Int) == 0) = false := beq_eq_false_iff_ne.2 (by omega)
  by_cases m1 : m = 1 ∧ op ≠ 14
  · obtain ⟨rfl, ho⟩ := m1
    have : b = false := by rw [hb]; simp [ho]
    subst this
    have g1 : (op != 14) = true := by simpa using ho
    clear hb hcnt hcnt2 hall hop g0 m0
    go_enter Tryz.func80, Tryz.ntmps80
    go_wp2
    go_ret
    exact ⟨rfl, rfl⟩
  have hfirst : (decide (1 ≤ m) && (decide (op = 14) || decide (2 ≤ m))) = true := by
    have : 1 ≤ m := by omega
    by_cases ho : op = 14
    · simp [this, ho]
    · have : 2 ≤ m := by
        rcases Nat.lt_or_ge m 2 with h | h
        · exact absurd ⟨by omega, ho⟩ m1
        · exact h
      simp [this, ho]
      omega
  rw [hfirst, Bool.true_and] at hb
  clear hfirst
  cases x
  · have : b = false := by rw [hb]; simp
    subst this
    clear hb hcnt hcnt2
    by_cases m1' : m = 1
    · subst m1'
      have ho : op = 14 := by
        rcases Decidable.em (op = 14) with h | h
        · exact h
        · exact absurd ⟨rfl, h⟩ m1
      subst ho
      clear m1 hop
      go_enter Tryz.func80, Tryz.ntmps80
      go_wp2_with (go_at_call 77; (with_reducible refine hall.mono ?_); rintro ee w' ⟨rfl, rfl⟩)
      go_ret
      exact ⟨rfl, rfl⟩
    · have g1 : ((m : Int) == 1) = false := beq_eq_false_iff_ne.2 (by omega)
      clear m1 hop
      go_enter Tryz.func80, Tryz.ntmps80
      go_wp2_with (go_at_call 77; (with_reducible refine hall.mono ?_); rintro ee w' ⟨rfl, rfl⟩)
      go_ret
      exact ⟨rfl, rfl⟩
  rw [Bool.true_and] at hb
  by_cases m1' : m = 1
  · subst m1'
    have ho : op = 14 := by
      rcases Decidable.em (op = 14) with h | h
      · exact h
      · exact absurd ⟨rfl, h⟩ m1
    subst ho
    have : b = true := by rw [hb]; rfl
    subst this
    clear m1 hop hb hcnt hcnt2
    go_enter Tryz.func80, Tryz.ntmps80
    go_wp2_with (go_at_call 77; (with_reducible refine hall.mono ?_); rintro ee w' ⟨rfl, rfl⟩)
    go_ret
    exact ⟨rfl, rfl⟩
  have g1 : ((m : Int) == 1) = false := beq_eq_false_iff_ne.2 (by omega)
  clear m1
  rcases hop with rfl | rfl | rfl | rfl
  · have : b = true := by rw [hb]; rfl
    subst this
    clear hb hcnt hcnt2
    go_enter Tryz.func80, Tryz.ntmps80
    go_wp2_with (go_at_call 77; (with_reducible refine hall.mono ?_); rintro ee w' ⟨rfl, rfl⟩)
    go_ret
    exact ⟨rfl, rfl⟩
  · have : b = true := by rw [hb]; rfl
    subst this
    clear hb hcnt hcnt2
    go_enter Tryz.func80, Tryz.ntmps80
    go_wp2_with (go_at_call 77; (with_reducible refine hall.mono ?_); rintro ee w' ⟨rfl, rfl⟩)
    go_ret
    exact ⟨rfl, rfl⟩
  · have : b = decide (n0 ≤ 1) := by rw [hb]; rfl
    subst this
    clear hb hcnt2
    go_enter Tryz.func80, Tryz.ntmps80
    go_wp2_with (first
      | (go_at_call 77; (with_reducible refine hall.mono ?_); rintro ee w' ⟨rfl, rfl⟩)
      | (go_at_call 103; (with_reducible refine hcnt.mono ?_); rintro ee w' ⟨rfl, rfl⟩))
    go_ret
    refine ⟨?_, rfl⟩
    congr 2
    simp
    omega
  · have : b = decide (n2 = m - 1) := by rw [hb]; rfl
    subst this
    obtain ⟨bb, o, rfl⟩ := hC2 (by omega)
    have hc3 := hcnt2 bb o rfl (by omega)
    have eb : decide (n2 = m - 1) = ((n2 : Int) == (m : Int) - 1) := by rw [Bool.eq_iff_iff]; simp; omega
    rw [eb]
    clear eb
    clear hb hcnt hcnt2 hC2
    go_enter Tryz.func80, Tryz.ntmps80
    go_wp2_with (first
      | (go_at_call 77; (with_reducible refine hall.mono ?_); rintro ee w' ⟨rfl, rfl⟩)
      | (go_at_call 103; (with_reducible refine hc3.mono ?_); rintro ee w' ⟨rfl, rfl⟩))
    go_ret
    exact ⟨rfl, rfl⟩
def iteS (ns : List Nd) (ar : List Int) : Int := if ar.length = 3 then soAt ns (ar.getD 1 0) else 0
def iteB (ns : List Nd) (ar : List Int) : Bool := decide (ar.length = 3) && (allB ns 0 (ar.take 1) && allB ns (soAt ns (ar.getD 1 0)) (ar.drop 2))
theorem ite_t (h : Vw w q A0 cc ns) (hC : Ir T w C ar) (hin : ∀ a ∈ ar, 0 ≤ a ∧ a < (ns.length : Int)) (hl : ar.length ≤ 64) (hcap : ar.length ≤ e) (he : e ≤ maxLen) :
    Calls Tryz.prog 78 #[.pointer (some ⟨q, 0, none⟩), .slice C ar.length e] w fun ee w' => ee = .returned (.tuple #[.int .i64 (iteS ns ar), .bool (iteB ns ar)]) ∧ Below w.heap.size w w' := by
  unfold maxLen at he
  by_cases m3 : ar.length = 3
  · rcases hC with h0 | ⟨b, o, rfl, hbl, hbT, hc⟩
    · rw [h0] at m3; simp at m3
    have hC : Ir T w (some ⟨b, o, none⟩) ar := .inr ⟨b, o, rfl, hbl, hbT, hc⟩
    have c1 := hc 1 (by omega)
    obtain ⟨y0, y1⟩ := hin _ (getD_mem (k := 1) (by omega))
    have e1 : iteS ns ar = soAt ns (ar.getD 1 0) := by simp [iteS, m3]
    have e2 : iteB ns ar = (allB ns 0 (ar.take 1) && allB ns (soAt ns (ar.getD 1 0)) (ar.drop 2)) := by simp [iteB, m3]
    rw [e1, e2]
    have a1 := all_t q cc A0 ns 0 _ (ar.take 1) e T w.drew (h.next (bel_drew _)) ((slice_head hC).off (T' := T) (Off.of_below (bel_drew w) []) (by simp) (fun b hb => .inl hb)) (fun a ha => hin a (List.mem_of_mem_take ha)) (by rw [List.length_take]; omega)
    have a2 := all_t q cc A0 ns (soAt ns (ar.getD 1 0)) _ (ar.drop 2) (e - 2) T w.drew (h.next (bel_drew _)) ((slice_tail (k := 2) hC (by omega) b o rfl).off (T' := T) (Off.of_below (bel_drew w) []) (by simp) (fun b hb => .inl hb)) (fun a ha => hin a (List.mem_of_mem_drop ha)) (by rw [List.length_drop]; omega)
    rw [show (List.take 1 ar).length = 1 by rw [List.length_take]; omega] at a1
    rw [show (List.drop 2 ar).length = 1 by rw [List.length_drop]; omega] at a2
    rw [show ((ar.take 1).all fun a => soAt ns a == 0) = allB ns 0 (ar.take 1) from rfl] at a1
    rw [show ((ar.drop 2).all fun a => soAt ns a == soAt ns (ar.getD 1 0)) = allB ns (soAt ns (ar.getD 1 0)) (ar.drop 2) from rfl] at a2
    obtain ⟨g, i, rfl, hxi, hlti, y6, _⟩ := h.get y0 y1
    have hsl := h.sl
    have hle := h.le
    rw [hxi] at c1
    rw [m3] at hcap ⊢
    generalize soAt ns (ar.getD 1 0) = s at *
    generalize allB ns 0 (ar.take 1) = x1 at *
    generalize allB ns s (ar.drop 2) = x2 at *
    clear hin hc h hC hl y0 y1 hxi e1 e2 m3 hbl hbT
    have hbe := hide (bel_drew w)
    cases x1
    · go_enter Tryz.func78, Tryz.ntmps78
      go_wp2
      go_region
      go_wp2_with (go_at_call 77; (with_reducible refine a1.mono ?_); rintro ee w' ⟨rfl, rfl⟩)
      go_ret2
      exact ⟨rfl, hbe.out⟩
    · go_enter Tryz.func78, Tryz.ntmps78
      go_wp2
      go_region
      go_wp2_with (first
        | (go_at_call 77; (with_reducible refine a1.mono ?_); rintro ee w' ⟨rfl, rfl⟩)
        | (go_at_call 77; (with_reducible refine a2.mono ?_); rintro ee w' ⟨rfl, rfl⟩))
      go_ret2
      exact ⟨by simp, hbe.out⟩
  · have e1 : iteS ns ar = 0 := by simp [iteS, m3]
    have e2 : iteB ns ar = false := by simp [iteB, m3]
    rw [e1, e2]
    clear hC hin h e1 e2
    generalize ar.length = m at *
    have g3 : ((m : Int) != 3) = true := by simp; omega
    go_enter Tryz.func78, Tryz.ntmps78
    go_wp2
    go_ret2
    exact ⟨rfl, .refl _ _⟩
def srtS (ns : List Nd) (op : Int) (ar : List Int) : Int := if op = 10 then iteS ns ar else if op = 11 ∨ op = 13 ∨ op = 14 ∨ op = 15 ∨ op = 16 then 1 else 0
def srtB (ns : List Nd) (op : Int) (ar : List Int) : Bool :=
  if op = 1 ∨ op = 2 ∨ op = 11 then decide (ar.length = 0) else if op = 3 then decide (ar.length = 1) && allB ns 0 ar else if op = 4 ∨ op = 5 ∨ op = 6 ∨ op = 7 then decide (2 ≤ ar.length) && allB ns 0 ar
  else if op = 8 ∨ op = 9 then decide (2 ≤ ar.length) && allB ns (soAt ns (ar.getD 0 0)) ar else if op = 10 then iteB ns ar else if op = 13 ∨ op = 14 ∨ op = 15 ∨ op = 16 then recB ns op ar else decide (2 ≤ ar.length) && allB ns 1 ar
theorem srt1 (nm : ByteArray) (h : Vw w q A0 cc ns) (hC : Ir T w C ar) (hin : ∀ a ∈ ar, 0 ≤ a ∧ a < (ns.length : Int)) (hl : ar.length ≤ 64) (hcap : ar.length ≤ e) (he : e ≤ maxLen) :
    Calls Tryz.prog 56 #[.pointer (some ⟨q, 0, none⟩), .int .i64 1, .string nm, .slice C ar.length e] w fun ee w' => ee = .returned (.tuple #[.int .i64 (srtS ns 1 ar), .bool (srtB ns 1 ar)]) ∧ Below w.heap.size w w' := by
  have e1 : srtS ns 1 ar = 0 := by simp [srtS]
  have e2 : srtB ns 1 ar = decide (ar.length = 0) := by simp [srtB]
  rw [e1, e2]
  clear e1 e2 hC hin h
  generalize ar.length = m at *
  have eb : decide (m = 0) = ((m : Int) == 0) := by rw [Bool.eq_iff_iff]; simp
  rw [eb]
  clear eb
  go_enter Tryz.func56, Tryz.ntmps56
  go_wp2
  go_ret2
  exact ⟨rfl, .refl _ _⟩
theorem srt2 (nm : ByteArray) (h : Vw w q A0 cc ns) (hC : Ir T w C ar) (hin : ∀ a ∈ ar, 0 ≤ a ∧ a < (ns.length : Int)) (hl : ar.length ≤ 64) (hcap : ar.length ≤ e) (he : e ≤ maxLen) :
    Calls Tryz.prog 56 #[.pointer (some ⟨q, 0, none⟩), .int .i64 2, .string nm, .slice C ar.length e] w fun ee w' => ee = .returned (.tuple #[.int .i64 (srtS ns 2 ar), .bool (srtB ns 2 ar)]) ∧ Below w.heap.size w w' := by
  have e1 : srtS ns 2 ar = 0 := by simp [srtS]
  have e2 : srtB ns 2 ar = decide (ar.length = 0) := by simp [srtB]
  rw [e1, e2]
  clear e1 e2 hC hin h
  generalize ar.length = m at *
  have eb : decide (m = 0) = ((m : Int) == 0) := by rw [Bool.eq_iff_iff]; simp
  rw [eb]
  clear eb
  go_enter Tryz.func56, Tryz.ntmps56
  go_wp2
  go_ret2
  exact ⟨rfl, .refl _ _⟩
theorem srt11 (nm : ByteArray) (h : Vw w q A0 cc ns) (hC : Ir T w C ar) (hin : ∀ a ∈ ar, 0 ≤ a ∧ a < (ns.length : Int)) (hl : ar.length ≤ 64) (hcap : ar.length ≤ e) (he : e ≤ maxLen) :
    Calls Tryz.prog 56 #[.pointer (some ⟨q, 0, none⟩), .int .i64 11, .string nm, .slice C ar.length e] w fun ee w' => ee = .returned (.tuple #[.int .i64 (srtS ns 11 ar), .bool (srtB ns 11 ar)]) ∧ Below w.heap.size w w' := by
  have e1 : srtS ns 11 ar = 1 := by simp [srtS]
  have e2 : srtB ns 11 ar = decide (ar.length = 0) := by simp [srtB]
  rw [e1, e2]
  clear e1 e2 hC hin h
  generalize ar.length = m at *
  have eb : decide (m = 0) = ((m : Int) == 0) := by rw [Bool.eq_iff_iff]; simp
  rw [eb]
  clear eb
  go_enter Tryz.func56, Tryz.ntmps56
  go_wp2
  go_ret2
  exact ⟨rfl, .refl _ _⟩
theorem srt3 (nm : ByteArray) (h : Vw w q A0 cc ns) (hC : Ir T w C ar) (hin : ∀ a ∈ ar, 0 ≤ a ∧ a < (ns.length : Int)) (hl : ar.length ≤ 64) (hcap : ar.length ≤ e) (he : e ≤ maxLen) :
    Calls Tryz.prog 56 #[.pointer (some ⟨q, 0, none⟩), .int .i64 3, .string nm, .slice C ar.length e] w fun ee w' => ee = .returned (.tuple #[.int .i64 (srtS ns 3 ar), .bool (srtB ns 3 ar)]) ∧ Below w.heap.size w w' := by
  have e1 : srtS ns 3 ar = 0 := by simp [srtS]
  have e2 : srtB ns 3 ar = (decide (ar.length = 1) && allB ns 0 ar) := by simp [srtB]
  rw [e1, e2]
  have hall := all_t q cc A0 ns 0 C ar e T w h hC hin (by omega)
  rw [show (ar.all fun a => soAt ns a == 0) = allB ns 0 ar from rfl] at hall
  clear e1 e2 hC hin h
  generalize allB ns 0 ar = x at *
  generalize ar.length = m at *
  by_cases hm : m = 1
  · subst hm
    go_enter Tryz.func56, Tryz.ntmps56
    go_wp2_with (go_at_call 77; (with_reducible refine hall.mono ?_); rintro ee w' ⟨rfl, rfl⟩)
    go_ret2
    exact ⟨by simp, .refl _ _⟩
  · have g1 : ((m : Int) == 1) = false := beq_eq_false_iff_ne.2 (by omega)
    clear hall
    go_enter Tryz.func56, Tryz.ntmps56
    go_wp2
    go_ret2
    exact ⟨by simp [hm], .refl _ _⟩
theorem srt4 (nm : ByteArray) (h : Vw w q A0 cc ns) (hC : Ir T w C ar) (hin : ∀ a ∈ ar, 0 ≤ a ∧ a < (ns.length : Int)) (hl : ar.length ≤ 64) (hcap : ar.length ≤ e) (he : e ≤ maxLen) :
    Calls Tryz.prog 56 #[.pointer (some ⟨q, 0, none⟩), .int .i64 4, .string nm, .slice C ar.length e] w fun ee w' => ee = .returned (.tuple #[.int .i64 (srtS ns 4 ar), .bool (srtB ns 4 ar)]) ∧ Below w.heap.size w w' := by
  have e1 : srtS ns 4 ar = 0 := by simp [srtS]
  have e2 : srtB ns 4 ar = (decide (2 ≤ ar.length) && allB ns 0 ar) := by simp [srtB]
  rw [e1, e2]
  have hall := all_t q cc A0 ns 0 C ar e T w h hC hin (by omega)
  rw [show (ar.all fun a => soAt ns a == 0) = allB ns 0 ar from rfl] at hall
  clear e1 e2 hC hin h
  generalize allB ns 0 ar = x at *
  generalize ar.length = m at *
  by_cases hm : 2 ≤ m
  · skip
    go_enter Tryz.func56, Tryz.ntmps56
    go_wp2_with (go_at_call 77; (with_reducible refine hall.mono ?_); rintro ee w' ⟨rfl, rfl⟩)
    go_ret2
    exact ⟨by simp [hm], .refl _ _⟩
  · have g1 : decide (2 ≤ m) = false := decide_eq_false (by omega)
    clear hall
    go_enter Tryz.func56, Tryz.ntmps56
    go_wp2
    go_ret2
    exact ⟨by simp [hm], .refl _ _⟩
theorem srt5 (nm : ByteArray) (h : Vw w q A0 cc ns) (hC : Ir T w C ar) (hin : ∀ a ∈ ar, 0 ≤ a ∧ a < (ns.length : Int)) (hl : ar.length ≤ 64) (hcap : ar.length ≤ e) (he : e ≤ maxLen) :
    Calls Tryz.prog 56 #[.pointer (some ⟨q, 0, none⟩), .int .i64 5, .string nm, .slice C ar.length e] w fun ee w' => ee = .returned (.tuple #[.int .i64 (srtS ns 5 ar), .bool (srtB ns 5 ar)]) ∧ Below w.heap.size w w' := by
  have e1 : srtS ns 5 ar = 0 := by simp [srtS]
  have e2 : srtB ns 5 ar = (decide (2 ≤ ar.length) && allB ns 0 ar) := by simp [srtB]
  rw [e1, e2]
  have hall := all_t q cc A0 ns 0 C ar e T w h hC hin (by omega)
  rw [show (ar.all fun a => soAt ns a == 0) = allB ns 0 ar from rfl] at hall
  clear e1 e2 hC hin h
  generalize allB ns 0 ar = x at *
  generalize ar.length = m at *
  by_cases hm : 2 ≤ m
  · skip
    go_enter Tryz.func56, Tryz.ntmps56
    go_wp2_with (go_at_call 77; (with_reducible refine hall.mono ?_); rintro ee w' ⟨rfl, rfl⟩)
    go_ret2
    exact ⟨by simp [hm], .refl _ _⟩
  · have g1 : decide (2 ≤ m) = false := decide_eq_false (by omega)
    clear hall
    go_enter Tryz.func56, Tryz.ntmps56
    go_wp2
    go_ret2
    exact ⟨by simp [hm], .refl _ _⟩
theorem srt6 (nm : ByteArray) (h : Vw w q A0 cc ns) (hC : Ir T w C ar) (hin : ∀ a ∈ ar, 0 ≤ a ∧ a < (ns.length : Int)) (hl : ar.length ≤ 64) (hcap : ar.length ≤ e) (he : e ≤ maxLen) :
    Calls Tryz.prog 56 #[.pointer (some ⟨q, 0, none⟩), .int .i64 6, .string nm, .slice C ar.length e] w fun ee w' => ee = .returned (.tuple #[.int .i64 (srtS ns 6 ar), .bool (srtB ns 6 ar)]) ∧ Below w.heap.size w w' := by
  have e1 : srtS ns 6 ar = 0 := by simp [srtS]
  have e2 : srtB ns 6 ar = (decide (2 ≤ ar.length) && allB ns 0 ar) := by simp [srtB]
  rw [e1, e2]
  have hall := all_t q cc A0 ns 0 C ar e T w h hC hin (by omega)
  rw [show (ar.all fun a => soAt ns a == 0) = allB ns 0 ar from rfl] at hall
  clear e1 e2 hC hin h
  generalize allB ns 0 ar = x at *
  generalize ar.length = m at *
  by_cases hm : 2 ≤ m
  · skip
    go_enter Tryz.func56, Tryz.ntmps56
    go_wp2_with (go_at_call 77; (with_reducible refine hall.mono ?_); rintro ee w' ⟨rfl, rfl⟩)
    go_ret2
    exact ⟨by simp [hm], .refl _ _⟩
  · have g1 : decide (2 ≤ m) = false := decide_eq_false (by omega)
    clear hall
    go_enter Tryz.func56, Tryz.ntmps56
    go_wp2
    go_ret2
    exact ⟨by simp [hm], .refl _ _⟩
theorem srt7 (nm : ByteArray) (h : Vw w q A0 cc ns) (hC : Ir T w C ar) (hin : ∀ a ∈ ar, 0 ≤ a ∧ a < (ns.length : Int)) (hl : ar.length ≤ 64) (hcap : ar.length ≤ e) (he : e ≤ maxLen) :
    Calls Tryz.prog 56 #[.pointer (some ⟨q, 0, none⟩), .int .i64 7, .string nm, .slice C ar.length e] w fun ee w' => ee = .returned (.tuple #[.int .i64 (srtS ns 7 ar), .bool (srtB ns 7 ar)]) ∧ Below w.heap.size w w' := by
  have e1 : srtS ns 7 ar = 0 := by simp [srtS]
  have e2 : srtB ns 7 ar = (decide (2 ≤ ar.length) && allB ns 0 ar) := by simp [srtB]
  rw [e1, e2]
  have hall := all_t q cc A0 ns 0 C ar e T w h hC hin (by omega)
  rw [show (ar.all fun a => soAt ns a == 0) = allB ns 0 ar from rfl] at hall
  clear e1 e2 hC hin h
  generalize allB ns 0 ar = x at *
  generalize ar.length = m at *
  by_cases hm : 2 ≤ m
  · skip
    go_enter Tryz.func56, Tryz.ntmps56
    go_wp2_with (go_at_call 77; (with_reducible refine hall.mono ?_); rintro ee w' ⟨rfl, rfl⟩)
    go_ret2
    exact ⟨by simp [hm], .refl _ _⟩
  · have g1 : decide (2 ≤ m) = false := decide_eq_false (by omega)
    clear hall
    go_enter Tryz.func56, Tryz.ntmps56
    go_wp2
    go_ret2
    exact ⟨by simp [hm], .refl _ _⟩
theorem srt17 (nm : ByteArray) (h : Vw w q A0 cc ns) (hC : Ir T w C ar) (hin : ∀ a ∈ ar, 0 ≤ a ∧ a < (ns.length : Int)) (hl : ar.length ≤ 64) (hcap : ar.length ≤ e) (he : e ≤ maxLen) :
    Calls Tryz.prog 56 #[.pointer (some ⟨q, 0, none⟩), .int .i64 17, .string nm, .slice C ar.length e] w fun ee w' => ee = .returned (.tuple #[.int .i64 (srtS ns 17 ar), .bool (srtB ns 17 ar)]) ∧ Below w.heap.size w w' := by
  have e1 : srtS ns 17 ar = 0 := by simp [srtS]
  have e2 : srtB ns 17 ar = (decide (2 ≤ ar.length) && allB ns 1 ar) := by simp [srtB]
  rw [e1, e2]
  have hall := all_t q cc A0 ns 1 C ar e T w h hC hin (by omega)
  rw [show (ar.all fun a => soAt ns a == 1) = allB ns 1 ar from rfl] at hall
  clear e1 e2 hC hin h
  generalize allB ns 1 ar = x at *
  generalize ar.length = m at *
  by_cases hm : 2 ≤ m
  · skip
    go_enter Tryz.func56, Tryz.ntmps56
    go_wp2_with (go_at_call 77; (with_reducible refine hall.mono ?_); rintro ee w' ⟨rfl, rfl⟩)
    go_ret2
    exact ⟨by simp [hm], .refl _ _⟩
  · have g1 : decide (2 ≤ m) = false := decide_eq_false (by omega)
    clear hall
    go_enter Tryz.func56, Tryz.ntmps56
    go_wp2
    go_ret2
    exact ⟨by simp [hm], .refl _ _⟩
theorem srt18 (nm : ByteArray) (h : Vw w q A0 cc ns) (hC : Ir T w C ar) (hin : ∀ a ∈ ar, 0 ≤ a ∧ a < (ns.length : Int)) (hl : ar.length ≤ 64) (hcap : ar.length ≤ e) (he : e ≤ maxLen) :
    Calls Tryz.prog 56 #[.pointer (some ⟨q, 0, none⟩), .int .i64 18, .string nm, .slice C ar.length e] w fun ee w' => ee = .returned (.tuple #[.int .i64 (srtS ns 18 ar), .bool (srtB ns 18 ar)]) ∧ Below w.heap.size w w' := by
  have e1 : srtS ns 18 ar = 0 := by simp [srtS]
  have e2 : srtB ns 18 ar = (decide (2 ≤ ar.length) && allB ns 1 ar) := by simp [srtB]
  rw [e1, e2]
  have hall := all_t q cc A0 ns 1 C ar e T w h hC hin (by omega)
  rw [show (ar.all fun a => soAt ns a == 1) = allB ns 1 ar from rfl] at hall
  clear e1 e2 hC hin h
  generalize allB ns 1 ar = x at *
  generalize ar.length = m at *
  by_cases hm : 2 ≤ m
  · skip
    go_enter Tryz.func56, Tryz.ntmps56
    go_wp2_with (go_at_call 77; (with_reducible refine hall.mono ?_); rintro ee w' ⟨rfl, rfl⟩)
    go_ret2
    exact ⟨by simp [hm], .refl _ _⟩
  · have g1 : decide (2 ≤ m) = false := decide_eq_false (by omega)
    clear hall
    go_enter Tryz.func56, Tryz.ntmps56
    go_wp2
    go_ret2
    exact ⟨by simp [hm], .refl _ _⟩
theorem srt19 (nm : ByteArray) (h : Vw w q A0 cc ns) (hC : Ir T w C ar) (hin : ∀ a ∈ ar, 0 ≤ a ∧ a < (ns.length : Int)) (hl : ar.length ≤ 64) (hcap : ar.length ≤ e) (he : e ≤ maxLen) :
    Calls Tryz.prog 56 #[.pointer (some ⟨q, 0, none⟩), .int .i64 19, .string nm, .slice C ar.length e] w fun ee w' => ee = .returned (.tuple #[.int .i64 (srtS ns 19 ar), .bool (srtB ns 19 ar)]) ∧ Below w.heap.size w w' := by
  have e1 : srtS ns 19 ar = 0 := by simp [srtS]
  have e2 : srtB ns 19 ar = (decide (2 ≤ ar.length) && allB ns 1 ar) := by simp [srtB]
  rw [e1, e2]
  have hall := all_t q cc A0 ns 1 C ar e T w h hC hin (by omega)
  rw [show (ar.all fun a => soAt ns a == 1) = allB ns 1 ar from rfl] at hall
  clear e1 e2 hC hin h
  generalize allB ns 1 ar = x at *
  generalize ar.length = m at *
  by_cases hm : 2 ≤ m
  · skip
    go_enter Tryz.func56, Tryz.ntmps56
    go_wp2_with (go_at_call 77; (with_reducible refine hall.mono ?_); rintro ee w' ⟨rfl, rfl⟩)
    go_ret2
    exact ⟨by simp [hm], .refl _ _⟩
  · have g1 : decide (2 ≤ m) = false := decide_eq_false (by omega)
    clear hall
    go_enter Tryz.func56, Tryz.ntmps56
    go_wp2
    go_ret2
    exact ⟨by simp [hm], .refl _ _⟩
theorem srt20 (nm : ByteArray) (h : Vw w q A0 cc ns) (hC : Ir T w C ar) (hin : ∀ a ∈ ar, 0 ≤ a ∧ a < (ns.length : Int)) (hl : ar.length ≤ 64) (hcap : ar.length ≤ e) (he : e ≤ maxLen) :
    Calls Tryz.prog 56 #[.pointer (some ⟨q, 0, none⟩), .int .i64 20, .string nm, .slice C ar.length e] w fun ee w' => ee = .returned (.tuple #[.int .i64 (srtS ns 20 ar), .bool (srtB ns 20 ar)]) ∧ Below w.heap.size w w' := by
  have e1 : srtS ns 20 ar = 0 := by simp [srtS]
  have e2 : srtB ns 20 ar = (decide (2 ≤ ar.length) && allB ns 1 ar) := by simp [srtB]
  rw [e1, e2]
  have hall := all_t q cc A0 ns 1 C ar e T w h hC hin (by omega)
  rw [show (ar.all fun a => soAt ns a == 1) = allB ns 1 ar from rfl] at hall
  clear e1 e2 hC hin h
  generalize allB ns 1 ar = x at *
  generalize ar.length = m at *
  by_cases hm : 2 ≤ m
  · skip
    go_enter Tryz.func56, Tryz.ntmps56
    go_wp2_with (go_at_call 77; (with_reducible refine hall.mono ?_); rintro ee w' ⟨rfl, rfl⟩)
    go_ret2
    exact ⟨by simp [hm], .refl _ _⟩
  · have g1 : decide (2 ≤ m) = false := decide_eq_false (by omega)
    clear hall
    go_enter Tryz.func56, Tryz.ntmps56
    go_wp2
    go_ret2
    exact ⟨by simp [hm], .refl _ _⟩
theorem srt8 (nm : ByteArray) (h : Vw w q A0 cc ns) (hC : Ir T w C ar) (hin : ∀ a ∈ ar, 0 ≤ a ∧ a < (ns.length : Int)) (hl : ar.length ≤ 64) (hcap : ar.length ≤ e) (he : e ≤ maxLen) :
    Calls Tryz.prog 56 #[.pointer (some ⟨q, 0, none⟩), .int .i64 8, .string nm, .slice C ar.length e] w fun ee w' => ee = .returned (.tuple #[.int .i64 (srtS ns 8 ar), .bool (srtB ns 8 ar)]) ∧ Below w.heap.size w w' := by
  have e1 : srtS ns 8 ar = 0 := by simp [srtS]
  have e2 : srtB ns 8 ar = (decide (2 ≤ ar.length) && allB ns (soAt ns (ar.getD 0 0)) ar) := by simp [srtB]
  rw [e1, e2]
  clear e1 e2
  by_cases hm : 2 ≤ ar.length
  · have hbd : ∀ k, Below w.heap.size w (w.drewN k) := fun k => ((Off.refl [] w).drewN k).below (Nat.le_refl _) (by simp)
    have hall : ∀ k, Calls Tryz.prog 77 #[.pointer (some ⟨q, 0, none⟩), .int .i64 (soAt ns (ar.getD 0 0)), .slice C ar.length e] (w.drewN k) fun ee w' => ee = .returned (.bool (allB ns (soAt ns (ar.getD 0 0)) ar)) ∧ w' = w.drewN k := fun k =>
      (all_t q cc A0 ns (soAt ns (ar.getD 0 0)) C ar e T (w.drewN k) (h.next (hbd k)) (hC.off (T' := T) (Off.of_below (hbd k) []) (by simp) (fun b hb => .inl hb)) hin (by omega)).mono fun ee w' ⟨h1, h2⟩ => ⟨h1, h2.symm⟩
    replace hbd := hide hbd
    rcases hC with h0 | ⟨b, o, rfl, hbl, hbT, hc⟩
    · rw [h0] at hm; simp at hm
    have c0 := hc 0 (by omega)
    rw [Nat.add_zero] at c0
    obtain ⟨y0, y1⟩ := hin _ (getD_mem (k := 0) (by omega))
    obtain ⟨g, i, rfl, hxi, hlti, y6, _⟩ := h.get y0 y1
    have hsl := h.sl
    have hle := h.le
    rw [hxi] at c0
    clear hc hin h hbl hbT y0 y1 hxi
    generalize soAt ns (ar.getD 0 0) = s at *
    generalize allB ns s ar = x at *
    generalize ar.length = m at *
    have g1 : decide ((2 : Int) ≤ (m : Int)) = true := decide_eq_true (by omega)
    have g3 : (0 : Int) < (m : Int) := by omega
    have hle2 : (i : Int) < (ns.length : Int) := by omega
    replace hall := hide hall
    go_enter Tryz.func56, Tryz.ntmps56
    go_wp2
    go_quiet ((go_at_call 77; exact Calls.quiet_of_same (hall.out _)))
    go_wp2
    go_ret2
    exact ⟨by simp [hm], hbd.out _⟩
  · clear hC hin h
    generalize allB ns (soAt ns (ar.getD 0 0)) ar = x at *
    generalize ar.length = m at *
    have g1 : decide ((2 : Int) ≤ (m : Int)) = false := decide_eq_false (by omega)
    have hbd : ∀ k, Below w.heap.size w (w.drewN k) := fun k => ((Off.refl [] w).drewN k).below (Nat.le_refl _) (by simp)
    replace hbd := hide hbd
    go_enter Tryz.func56, Tryz.ntmps56
    go_wp2
    go_quiet (fail)
    go_wp2
    go_ret2
    exact ⟨by simp [hm], hbd.out _⟩
theorem srt9 (nm : ByteArray) (h : Vw w q A0 cc ns) (hC : Ir T w C ar) (hin : ∀ a ∈ ar, 0 ≤ a ∧ a < (ns.length : Int)) (hl : ar.length ≤ 64) (hcap : ar.length ≤ e) (he : e ≤ maxLen) :
    Calls Tryz.prog 56 #[.pointer (some ⟨q, 0, none⟩), .int .i64 9, .string nm, .slice C ar.length e] w fun ee w' => ee = .returned (.tuple #[.int .i64 (srtS ns 9 ar), .bool (srtB ns 9 ar)]) ∧ Below w.heap.size w w' := by
  have e1 : srtS ns 9 ar = 0 := by simp [srtS]
  have e2 : srtB ns 9 ar = (decide (2 ≤ ar.length) && allB ns (soAt ns (ar.getD 0 0)) ar) := by simp [srtB]
  rw [e1, e2]
  clear e1 e2
  by_cases hm : 2 ≤ ar.length
  · have hbd : ∀ k, Below w.heap.size w (w.drewN k) := fun k => ((Off.refl [] w).drewN k).below (Nat.le_refl _) (by simp)
    have hall : ∀ k, Calls Tryz.prog 77 #[.pointer (some ⟨q, 0, none⟩), .int .i64 (soAt ns (ar.getD 0 0)), .slice C ar.length e] (w.drewN k) fun ee w' => ee = .returned (.bool (allB ns (soAt ns (ar.getD 0 0)) ar)) ∧ w' = w.drewN k := fun k =>
      (all_t q cc A0 ns (soAt ns (ar.getD 0 0)) C ar e T (w.drewN k) (h.next (hbd k)) (hC.off (T' := T) (Off.of_below (hbd k) []) (by simp) (fun b hb => .inl hb)) hin (by omega)).mono fun ee w' ⟨h1, h2⟩ => ⟨h1, h2.symm⟩
    replace hbd := hide hbd
    rcases hC with h0 | ⟨b, o, rfl, hbl, hbT, hc⟩
    · rw [h0] at hm; simp at hm
    have c0 := hc 0 (by omega)
    rw [Nat.add_zero] at c0
    obtain ⟨y0, y1⟩ := hin _ (getD_mem (k := 0) (by omega))
    obtain ⟨g, i, rfl, hxi, hlti, y6, _⟩ := h.get y0 y1
    have hsl := h.sl
    have hle := h.le
    rw [hxi] at c0
    clear hc hin h hbl hbT y0 y1 hxi
    generalize soAt ns (ar.getD 0 0) = s at *
    generalize allB ns s ar = x at *
    generalize ar.length = m at *
    have g1 : decide ((2 : Int) ≤ (m : Int)) = true := decide_eq_true (by omega)
    have g3 : (0 : Int) < (m : Int) := by omega
    have hle2 : (i : Int) < (ns.length : Int) := by omega
    replace hall := hide hall
    go_enter Tryz.func56, Tryz.ntmps56
    go_wp2
    go_quiet ((go_at_call 77; exact Calls.quiet_of_same (hall.out _)))
    go_wp2
    go_ret2
    exact ⟨by simp [hm], hbd.out _⟩
  · clear hC hin h
    generalize allB ns (soAt ns (ar.getD 0 0)) ar = x at *
    generalize ar.length = m at *
    have g1 : decide ((2 : Int) ≤ (m : Int)) = false := decide_eq_false (by omega)
    have hbd : ∀ k, Below w.heap.size w (w.drewN k) := fun k => ((Off.refl [] w).drewN k).below (Nat.le_refl _) (by simp)
    replace hbd := hide hbd
    go_enter Tryz.func56, Tryz.ntmps56
    go_wp2
    go_quiet (fail)
    go_wp2
    go_ret2
    exact ⟨by simp [hm], hbd.out _⟩
theorem srt10 (nm : ByteArray) (h : Vw w q A0 cc ns) (hC : Ir T w C ar) (hin : ∀ a ∈ ar, 0 ≤ a ∧ a < (ns.length : Int)) (hl : ar.length ≤ 64) (hcap : ar.length ≤ e) (he : e ≤ maxLen) :
    Calls Tryz.prog 56 #[.pointer (some ⟨q, 0, none⟩), .int .i64 10, .string nm, .slice C ar.length e] w fun ee w' => ee = .returned (.tuple #[.int .i64 (srtS ns 10 ar), .bool (srtB ns 10 ar)]) ∧ Below w.heap.size w w' := by
  have hi := ite_t h hC hin hl hcap he
  have e1 : srtS ns 10 ar = iteS ns ar := by simp [srtS]
  have e2 : srtB ns 10 ar = iteB ns ar := by simp [srtB]
  rw [e1, e2]
  clear e1 e2 hC hin h
  generalize iteS ns ar = s at *
  generalize iteB ns ar = x at *
  generalize ar.length = m at *
  go_enter Tryz.func56, Tryz.ntmps56
  go_wp2_with (go_at_call 78; (with_reducible refine hi.mono ?_); rintro ee w' ⟨rfl, hb⟩)
  go_ret2
  exact ⟨rfl, hb⟩
theorem srt13 (nm : ByteArray) (h : Vw w q A0 cc ns) (hC : Ir T w C ar) (hin : ∀ a ∈ ar, 0 ≤ a ∧ a < (ns.length : Int)) (hl : ar.length ≤ 64) (hcap : ar.length ≤ e) (he : e ≤ maxLen) :
    Calls Tryz.prog 56 #[.pointer (some ⟨q, 0, none⟩), .int .i64 13, .string nm, .slice C ar.length e] w fun ee w' => ee = .returned (.tuple #[.int .i64 (srtS ns 13 ar), .bool (srtB ns 13 ar)]) ∧ Below w.heap.size w w' := by
  have hi := reckoned_t 13 h hC hin hl hcap he (by omega)
  have e1 : srtS ns 13 ar = 1 := by simp [srtS]
  have e2 : srtB ns 13 ar = recB ns 13 ar := by simp [srtB]
  rw [e1, e2]
  clear e1 e2 hC hin h
  generalize recB ns 13 ar = x at *
  generalize ar.length = m at *
  go_enter Tryz.func56, Tryz.ntmps56
  go_wp2_with (go_at_call 80; (with_reducible refine hi.mono ?_); rintro ee w' ⟨rfl, rfl⟩)
  go_ret2
  exact ⟨rfl, .refl _ _⟩
theorem srt14 (nm : ByteArray) (h : Vw w q A0 cc ns) (hC : Ir T w C ar) (hin : ∀ a ∈ ar, 0 ≤ a ∧ a < (ns.length : Int)) (hl : ar.length ≤ 64) (hcap : ar.length ≤ e) (he : e ≤ maxLen) :
    Calls Tryz.prog 56 #[.pointer (some ⟨q, 0, none⟩), .int .i64 14, .string nm, .slice C ar.length e] w fun ee w' => ee = .returned (.tuple #[.int .i64 (srtS ns 14 ar), .bool (srtB ns 14 ar)]) ∧ Below w.heap.size w w' := by
  have hi := reckoned_t 14 h hC hin hl hcap he (by omega)
  have e1 : srtS ns 14 ar = 1 := by simp [srtS]
  have e2 : srtB ns 14 ar = recB ns 14 ar := by simp [srtB]
  rw [e1, e2]
  clear e1 e2 hC hin h
  generalize recB ns 14 ar = x at *
  generalize ar.length = m at *
  go_enter Tryz.func56, Tryz.ntmps56
  go_wp2_with (go_at_call 80; (with_reducible refine hi.mono ?_); rintro ee w' ⟨rfl, rfl⟩)
  go_ret2
  exact ⟨rfl, .refl _ _⟩
theorem srt15 (nm : ByteArray) (h : Vw w q A0 cc ns) (hC : Ir T w C ar) (hin : ∀ a ∈ ar, 0 ≤ a ∧ a < (ns.length : Int)) (hl : ar.length ≤ 64) (hcap : ar.length ≤ e) (he : e ≤ maxLen) :
    Calls Tryz.prog 56 #[.pointer (some ⟨q, 0, none⟩), .int .i64 15, .string nm, .slice C ar.length e] w fun ee w' => ee = .returned (.tuple #[.int .i64 (srtS ns 15 ar), .bool (srtB ns 15 ar)]) ∧ Below w.heap.size w w' := by
  have hi := reckoned_t 15 h hC hin hl hcap he (by omega)
  have e1 : srtS ns 15 ar = 1 := by simp [srtS]
  have e2 : srtB ns 15 ar = recB ns 15 ar := by simp [srtB]
  rw [e1, e2]
  clear e1 e2 hC hin h
  generalize recB ns 15 ar = x at *
  generalize ar.length = m at *
  go_enter Tryz.func56, Tryz.ntmps56
  go_wp2_with (go_at_call 80; (with_reducible refine hi.mono ?_); rintro ee w' ⟨rfl, rfl⟩)
  go_ret2
  exact ⟨rfl, .refl _ _⟩
theorem srt16 (nm : ByteArray) (h : Vw w q A0 cc ns) (hC : Ir T w C ar) (hin : ∀ a ∈ ar, 0 ≤ a ∧ a < (ns.length : Int)) (hl : ar.length ≤ 64) (hcap : ar.length ≤ e) (he : e ≤ maxLen) :
    Calls Tryz.prog 56 #[.pointer (some ⟨q, 0, none⟩), .int .i64 16, .string nm, .slice C ar.length e] w fun ee w' => ee = .returned (.tuple #[.int .i64 (srtS ns 16 ar), .bool (srtB ns 16 ar)]) ∧ Below w.heap.size w w' := by
  have hi := reckoned_t 16 h hC hin hl hcap he (by omega)
  have e1 : srtS ns 16 ar = 1 := by simp [srtS]
  have e2 : srtB ns 16 ar = recB ns 16 ar := by simp [srtB]
  rw [e1, e2]
  clear e1 e2 hC hin h
  generalize recB ns 16 ar = x at *
  generalize ar.length = m at *
  go_enter Tryz.func56, Tryz.ntmps56
  go_wp2_with (go_at_call 80; (with_reducible refine hi.mono ?_); rintro ee w' ⟨rfl, rfl⟩)
  go_ret2
  exact ⟨rfl, .refl _ _⟩
theorem sorted_t (op : Int) (nm : ByteArray) (h : Vw w q A0 cc ns) (hC : Ir T w C ar) (hin : ∀ a ∈ ar, 0 ≤ a ∧ a < (ns.length : Int)) (hl : ar.length ≤ 64) (hcap : ar.length ≤ e) (he : e ≤ maxLen) (h1 : 1 ≤ op) (h2 : op ≤ 20) (h12 : op ≠ 12) :
    Calls Tryz.prog 56 #[.pointer (some ⟨q, 0, none⟩), .int .i64 op, .string nm, .slice C ar.length e] w fun ee w' => ee = .returned (.tuple #[.int .i64 (srtS ns op ar), .bool (srtB ns op ar)]) ∧ Below w.heap.size w w' := by
  have hop : op = 1 ∨ op = 2 ∨ op = 3 ∨ op = 4 ∨ op = 5 ∨ op = 6 ∨ op = 7 ∨ op = 8 ∨ op = 9 ∨ op = 10 ∨ op = 11 ∨ op = 13 ∨ op = 14 ∨ op = 15 ∨ op = 16 ∨ op = 17 ∨ op = 18 ∨ op = 19 ∨ op = 20 := by omega
  rcases hop with rfl | rfl | rfl | rfl | rfl | rfl | rfl | rfl | rfl | rfl | rfl | rfl | rfl | rfl | rfl | rfl | rfl | rfl | rfl
  · exact srt1 nm h hC hin hl hcap he
  · exact srt2 nm h hC hin hl hcap he
  · exact srt3 nm h hC hin hl hcap he
  · exact srt4 nm h hC hin hl hcap he
  · exact srt5 nm h hC hin hl hcap he
  · exact srt6 nm h hC hin hl hcap he
  · exact srt7 nm h hC hin hl hcap he
  · exact srt8 nm h hC hin hl hcap he
  · exact srt9 nm h hC hin hl hcap he
  · exact srt10 nm h hC hin hl hcap he
  · exact srt11 nm h hC hin hl hcap he
  · exact srt13 nm h hC hin hl hcap he
  · exact srt14 nm h hC hin hl hcap he
  · exact srt15 nm h hC hin hl hcap he
  · exact srt16 nm h hC hin hl hcap he
  · exact srt17 nm h hC hin hl hcap he
  · exact srt18 nm h hC hin hl hcap he
  · exact srt19 nm h hC hin hl hcap he
  · exact srt20 nm h hC hin hl hcap he
end
section
variable {X : List Nat} {B0 : Nat} {w0 w : World} {q N : Nat} {so fu : List (ByteArray × Nat)} {ty : List Fn} {ns : List Nd}
theorem tt_vw (h : Tt X B0 w0 w q N so fu ty ns) (hN : N ≤ 1000000) : ∃ A c, Vw w q A c ns := by
  obtain ⟨p, T, v, m1, m2, h1, h2, h3⟩ := h
  obtain ⟨A, c, _, hv⟩ := h1.vw hN
  exact ⟨A, c, hv⟩
theorem app_t (h : Tt X B0 w0 w q N so fu ty ns) (s : ByteArray) (hs : s.size ≤ maxLen) (i : Nat) (hi : i < ty.length) (hx : ty[i].nm.data.toList = s.data.toList) (h0 : ty[i].ar = []) (C : Option Addr) (e : Nat) :
    Calls Tryz.prog 79 #[.pointer (some ⟨q, 0, none⟩), .string s, .slice C 0 e] w fun ee w' => ee = .returned (.tuple #[.int .i64 ty[i].rs, .bool true]) ∧ Below w.heap.size w w' := by
  obtain ⟨p, T, v, m1, m2, h1, h2, h3⟩ := h
  have hf := tw_find h2 s hs (by decide) i hi hx
  rw [h0] at hf
  have a0 : w.cell? ⟨q, 0, none⟩ = some (.pointer (some ⟨p, 0, none⟩)) := h1.bk.cell rfl
  generalize ty[i].nm = nmi at *
  generalize ty[i].rs = rs at *
  clear h1 h2 h3 h0 hx hs
  have hend : ∀ w1 o, Below w.heap.size w w1 → Below w.heap.size w (w1.alloc o) := fun w1 o hb => hb.trans ((bel_al w1 o).mono hb.size)
  replace hend := hide hend
  replace hf := hide hf
  go_enter Tryz.func79, Tryz.ntmps79
  go_wp2_with (go_at_call 102; (with_reducible refine hf.out.mono ?_); rintro ee w1 ⟨A1, c1, rfl, -, hb1⟩; have hbe := hide (hend.out w1 (.cells #[.string nmi, .slice A1 0 c1, .int .i64 rs] 59) hb1); replace hb1 := hide hb1)
  go_loop [33] (fun i => i = .int .i64 0) (fun i => 0)
  case atStart => rfl
  case round =>
    subst hrel
    go_wp2
    go_ret2
    exact ⟨rfl, hbe.out⟩
end
section
variable {w : World} {q : Nat} {op : Int} {nm : ByteArray} {ng : Bool} {A B C : Option Addr} {n1 n2 n3 c d e : Nat}
def mkArgs (q : Nat) (op : Int) (nm : ByteArray) (ng : Bool) (A : Option Addr) (n1 c : Nat) (B : Option Addr) (n2 d : Nat) (C : Option Addr) (n3 e : Nat) : Array Value :=
  #[.pointer (some ⟨q, 0, none⟩), .int .i64 op, .string nm, .agg #[.bool ng, .slice A n1 c, .slice B n2 d], .slice C n3 e]
theorem box3 (w : World) (u v x : Value) : (w.alloc (.cells #[u, v, x] 28)).cell? ⟨w.heap.size, 0, none⟩ = some u ∧ (w.alloc (.cells #[u, v, x] 28)).cell? ⟨w.heap.size, 1, none⟩ = some v ∧ (w.alloc (.cells #[u, v, x] 28)).cell? ⟨w.heap.size, 2, none⟩ = some x :=
  ⟨(Bk.new _ _ w).cell rfl, (Bk.new _ _ w).cell rfl, (Bk.new _ _ w).cell rfl⟩
theorem box3_next {w w1 : World} {u v x : Value} (hb : Below (w.alloc (.cells #[u, v, x] 28)).heap.size (w.alloc (.cells #[u, v, x] 28)) w1) : w1.cell? ⟨w.heap.size, 0, none⟩ = some u ∧ w1.cell? ⟨w.heap.size, 1, none⟩ = some v ∧ w1.cell? ⟨w.heap.size, 2, none⟩ = some x := by
  have h : Bk w.heap.size #[u, v, x] 28 w1 := (Bk.new _ _ w).next hb
  exact ⟨h.cell rfl, h.cell rfl, h.cell rfl⟩
theorem mk_put {R : World → World → Prop} (hwf : Calls Tryz.prog 55 (mkArgs q op nm ng A n1 c B n2 d C n3 e) (w.alloc (.cells #[.bool ng, .slice A n1 c, .slice B n2 d] 28)) fun ee w' => ee = .returned (.bool true) ∧ Below (w.alloc (.cells #[.bool ng, .slice A n1 c, .slice B n2 d] 28)).heap.size (w.alloc (.cells #[.bool ng, .slice A n1 c, .slice B n2 d] 28)) w')
    (s : Int) (hso : ∀ W, Below w.heap.size w W → Calls Tryz.prog 56 #[.pointer (some ⟨q, 0, none⟩), .int .i64 op, .string nm, .slice C n3 e] W fun ee w' => ee = .returned (.tuple #[.int .i64 s, .bool true]) ∧ Below W.heap.size W w')
    (x y : Int) (hput : ∀ W, Below w.heap.size w W → Calls Tryz.prog 57 #[.pointer (some ⟨q, 0, none⟩), .agg (nv op nm ng A n1 c B n2 d C n3 e s)] W fun ee w' => ee = .returned (.tuple #[.int .i64 x, .int .i64 y]) ∧ R W w') :
    Calls Tryz.prog 28 (mkArgs q op nm ng A n1 c B n2 d C n3 e) w fun ee w' => ee = .returned (.tuple #[.int .i64 x, .int .i64 y]) ∧ ∃ W, Below w.heap.size w W ∧ R W w' := by
  obtain ⟨y0, y1, y2⟩ := box3 w (.bool ng) (.slice A n1 c) (.slice B n2 d)
  have hbe : ∀ w1, Below (w.alloc (.cells #[.bool ng, .slice A n1 c, .slice B n2 d] 28)).heap.size (w.alloc (.cells #[.bool ng, .slice A n1 c, .slice B n2 d] 28)) w1 → Below w.heap.size w w1 := fun w1 h => (bel_al w _).trans (h.mono (by simp))
  have hbe2 : ∀ w1 w2, Below (w.alloc (.cells #[.bool ng, .slice A n1 c, .slice B n2 d] 28)).heap.size (w.alloc (.cells #[.bool ng, .slice A n1 c, .slice B n2 d] 28)) w1 → Below w1.heap.size w1 w2 → Below (w.alloc (.cells #[.bool ng, .slice A n1 c, .slice B n2 d] 28)).heap.size (w.alloc (.cells #[.bool ng, .slice A n1 c, .slice B n2 d] 28)) w2 := fun w1 w2 h k => h.trans (k.mono h.size)
  replace hbe := hide hbe
  replace hbe2 := hide hbe2
  replace hso := hide hso
  replace hput := hide hput
  unfold mkArgs at *
  unfold nv at hput
  replace hwf := hide hwf
  go_enter Tryz.func28, Tryz.ntmps28
  go_wp2_with (first
    | (go_at_call 55; (with_reducible refine hwf.out.mono ?_); rintro ee w1 ⟨rfl, hb1⟩; replace hb1 := hide hb1)
    | (go_at_call 56; (with_reducible refine (hso.out _ (hbe.out _ hb1.out)).mono ?_); rintro ee w2 ⟨rfl, hb2⟩; replace hb2 := hide (hbe2.out _ _ hb1.out hb2); obtain ⟨z0, z1, z2⟩ := box3_next hb2.out)
    | (go_at_call 57; (with_reducible refine (hput.out _ (hbe.out _ hb2.out)).mono ?_); rintro ee w3 ⟨rfl, hR⟩; replace hR := hide hR))
  go_ret2
  exact ⟨rfl, w2, hbe.out _ hb2.out, hR.out⟩
end
theorem new_t (p : Nat) (w : World) : Calls Tryz.prog 54 #[.pointer (some ⟨p, 0, none⟩)] w fun e w' => e = .returned (.pointer (some ⟨w.heap.size, 0, none⟩)) ∧ w' = w.alloc (.cells #[.pointer (some ⟨p, 0, none⟩), .slice none 0 0, .map none, .map none] 141) := by
  go_enter Tryz.func54, Tryz.ntmps54
  go_wp2
  go_ret
  exact ⟨rfl, rfl⟩
theorem tt_new {X : List Nat} {B0 : Nat} {w0 w : World} {p : Nat} {so fu : List (ByteArray × Nat)} {ty : List Fn} (h : Tw X B0 w0 w p 1000 0 so fu ty) :
    Calls Tryz.prog 54 #[.pointer (some ⟨p, 0, none⟩)] w fun e w' => e = .returned (.pointer (some ⟨w.heap.size, 0, none⟩)) ∧ Tt X B0 w0 w' w.heap.size 0 so fu ty [] ∧ Below w.heap.size w w' := by
  refine (new_t p w).mono fun e w' ⟨he, hw⟩ => ⟨he, ?_, by rw [hw]; exact bel_al _ _⟩
  subst hw
  have hX : ∀ b ∈ X, b < w.heap.size := fun b hb => h.lt hb
  refine ⟨p, [w.heap.size], .slice none 0 0, none, none, ⟨Bk.new _ _ _, ⟨[], World.ownsRow_nil _ _ _ _, rfl⟩, .inl ⟨rfl, rfl, rfl⟩, rfl, by simp, fun b hb => ⟨by have := hX b hb; simp; omega, by have := hX b hb; simp; omega⟩, by simp, fun i hi => by simp at hi, Nat.le_refl _⟩, ?_, ?_⟩
  · exact h.alloc _
  · intro b hb; simp at hb; subst hb; exact h.base
section
variable {X : List Nat} {B0 : Nat} {w0 w : World} {q N : Nat} {so fu : List (ByteArray × Nat)} {ty : List Fn} {ns : List Nd}
end
end
end Nt
end Go.Proofs.YthabfakbdfaciaaGreat
