import Derived.Test.YthabfakbdfaciaaGreatOB14
import Derived.Test.YthabfakbdfaciaaGreatOB10
import Derived.Test.YthabfakbdfaciaaGreatOB9
import Derived.Test.YthabfakbdfaciaaGreatShelf
import Derived.Test.YthabfakbdfaciaaGreatOB11
import Derived.Test.YthabfakbdfaciaaGreatOB13
namespace Go.Proofs.YthabfakbdfaciaaGreat
namespace Nt
set_option maxRecDepth 100000
set_option linter.unusedSimpArgs false
set_option linter.unusedVariables false
set_option maxHeartbeats 16000000
section
open Go.ChangeShapes Go.RowKit
section
variable {X : List Nat} {B0 : Nat} {w0 w : World} {q N : Nat} {so fu : List (ByteArray × Nat)} {ty : List Fn} {ns : List Nd}
theorem node_end {g : Nat} {W : World} {v0 v1 v2 v3 v4 v5 v6 : Value} {w : World} (hb : Below w.heap.size w W) (hl : w.heap.size ≤ g) (h2 : Bk g #[.int .i64 0, .string ⟨#[]⟩, .bool false, .slice none 0 0, .slice none 0 0, .slice none 0 0, .int .i64 0] 115 W) {F : World}
    (hF : F = set7 W g v0 v1 v2 v3 v4 v5 v6) : Bk g #[v0, v1, v2, v3, v4, v5, v6] 115 F ∧ Below w.heap.size w F ∧ ∀ (A : Option Addr) (vs : List Value), (∀ S : List Nat, (∀ b ∈ S, b < w.heap.size) → Rw (g :: S) W A vs) → Nw w F A vs := by
  subst hF
  refine ⟨bk_set7 h2 _ _ _ _ _ _ _, hb.trans ((off_set7 W g _ _ _ _ _ _ _).below hb.size (by intro b hb; simp at hb; omega)), fun A vs h S hS => (h S hS).off (off_set7 W g _ _ _ _ _ _ _) (by intro b hb; simp at hb; subst hb; exact .inl (by simp)) (fun b hb => .inl (List.mem_cons_of_mem _ hb))⟩
theorem node_t (h : Tt X B0 w0 w q N so fu ty ns) (hN : N ≤ 100000) (i : Nat) (hi : i < ns.length) :
    Calls Tryz.prog 58 #[.pointer (some ⟨q, 0, none⟩), .int .i64 (i : Int)] w fun ee w' => ∃ A c B d C e, ee = .returned (.tuple #[.agg (nv ns[i].op ns[i].nm ns[i].ng A ns[i].nu.length c B ns[i].de.length d C ns[i].ar.length e ns[i].so), .bool true]) ∧
      Nw w w' A (us ns[i].nu) ∧ Nw w w' B (us ns[i].de) ∧ Nw w w' C (zs ns[i].ar) ∧ Below w.heap.size w w' := by
  obtain ⟨p, T, v, m1, m2, h1, h2, h3⟩ := h
  have hfit := h1.fit _ (List.getElem_mem hi)
  obtain ⟨A0, c0, rfl, hv⟩ := h1.vw (by omega)
  obtain ⟨W0, hW0⟩ : ∃ W, W = w.alloc (.cells #[.int .i64 0, .string ⟨#[]⟩, .bool false, .slice none 0 0, .slice none 0 0, .slice none 0 0, .int .i64 0] 115) := ⟨_, rfl⟩
  have hb0 : Below w.heap.size w W0 := by rw [hW0]; exact bel_al _ _
  have hB0 : Bk w.heap.size #[.int .i64 0, .string ⟨#[]⟩, .bool false, .slice none 0 0, .slice none 0 0, .slice none 0 0, .int .i64 0] 115 W0 := by rw [hW0]; exact Bk.new _ _ _
  have h10 := h1.next hb0
  have hv0 := hv.next hb0
  have hh := has_t q ns.length c0 A0 (i : Int) W0 hv0.sl
  rw [show hasT ns.length (i : Int) = true from hasT_iff.2 ⟨by omega, by omega⟩] at hh
  obtain ⟨xs, hx, hF⟩ := h10.row
  obtain ⟨A, c, B, d, C, e, q0, q1, q2, q3, q4, q5, q6, q7, r1, r2, r3⟩ := Ns.get hF i hi
  rcases hx.2 with ⟨_, hz⟩ | ⟨g, cap, cu, eq, hxx⟩
  · omega
  cases eq
  have y0 := hx.cells (g := g) rfl _ _ q0
  have y1 := hx.cells (g := g) rfl _ _ q1
  have y2 := hx.cells (g := g) rfl _ _ q2
  have y3 := hx.cells (g := g) rfl _ _ q3
  have y4 := hx.cells (g := g) rfl _ _ q4
  have y5 := hx.cells (g := g) rfl _ _ q5
  have y6 := hx.cells (g := g) rfl _ _ q6
  rw [Addr.add_lit, Nat.zero_add] at y0 y1 y2 y3 y4 y5 y6
  have O := own_t ns[i].op ns[i].nm ns[i].ng ns[i].nu ns[i].de ns[i].ar ns[i].so A B C c d e W0 _ r1 r2 r3 hfit.nu hfit.de hfit.ar
  have hsl := hv0.sl
  have hle := hv.le
  have hi2 : (i : Int) < (ns.length : Int) := by omega
  have hgl : w.heap.size < W0.heap.size := by rw [hW0]; simp
  have hst : ∀ w1, Below W0.heap.size W0 w1 → Bk w.heap.size #[.int .i64 0, .string ⟨#[]⟩, .bool false, .slice none 0 0, .slice none 0 0, .slice none 0 0, .int .i64 0] 115 w1 ∧ Below w.heap.size w w1 := fun w1 hb => ⟨hB0.next hb, hb0.trans (hb.mono hb0.size)⟩
  have hnw : ∀ w1 A' vs, Nw W0 w1 A' vs → ∀ S : List Nat, (∀ b ∈ S, b < w.heap.size) → Rw (w.heap.size :: S) w1 A' vs := fun w1 A' vs h S hS => h _ (by
    intro b hb
    rcases List.mem_cons.1 hb with rfl | hb
    · exact hgl
    · exact Nat.lt_of_lt_of_le (hS b hb) hb0.size)
  unfold nv at O ⊢
  generalize hu1 : us ns[i].nu = u1 at *
  generalize hu2 : us ns[i].de = u2 at *
  generalize hu3 : zs ns[i].ar = u3 at *
  generalize ns[i].nu.length = n1 at *
  generalize ns[i].de.length = n2 at *
  generalize ns[i].ar.length = n3 at *
  generalize ns[i].op = op at *
  generalize ns[i].nm = nm at *
  generalize ns[i].ng = ng at *
  generalize ns[i].so = sx at *
  replace O := hide O; replace hst := hide hst; replace hnw := hide hnw
  have hW := hide hW0
  clear hxx
  clear h1 h2 h3 h10 hv hv0 hfit hx hF q0 q1 q2 q3 q4 q5 q6 q7 r1 r2 r3 hB0 hb0 hW0 hu1 hu2 hu3 hgl hi
  generalize ns.length = n at *
  go_enter Tryz.func58, Tryz.ntmps58
  go_wp2_with (first
    | (go_at_call 76; rw [← hW.out]; (with_reducible refine hh.mono ?_); rintro ee w' ⟨rfl, rfl⟩)
    | (go_at_call 82; (with_reducible refine O.out.mono ?_); rintro ee w1 ⟨A', c', B', d', C', e', rfl, N1, N2, N3, hb1⟩; obtain ⟨k1, k2⟩ := hst.out _ hb1; obtain ⟨z0, z1, z2, z3, z4, z5, z6⟩ := cells7 k1; obtain ⟨f0, f1, f2, f3, f4, f5, f6⟩ := free7 k1; replace k1 := hide k1; replace k2 := hide k2; replace N1 := hide (hnw.out _ _ _ N1); replace N2 := hide (hnw.out _ _ _ N2); replace N3 := hide (hnw.out _ _ _ N3); replace hb1 := hide hb1))
  obtain ⟨F, hF⟩ : ∃ F, F = set7 w1 w.heap.size (.int .i64 op) (.string nm) (.bool ng) (.slice A' n1 c') (.slice B' n2 d') (.slice C' n3 e') (.int .i64 sx) := ⟨_, rfl⟩
  obtain ⟨hY, e1, e2⟩ := node_end k2.out (Nat.le_refl _) k1.out hF
  clear z0 z1 z2 z3 z4 z5 z6
  obtain ⟨z0, z1, z2, z3, z4, z5, z6⟩ := cells7 hY
  unfold set7 at hF
  rw [← hF]
  exact bodyPost_ret (v := .tuple #[.agg #[.int .i64 op, .string nm, .bool ng, .slice A' n1 c', .slice B' n2 d', .slice C' n3 e', .int .i64 sx], .bool true]) (by simp [results, Tryz.results58, go_sem, z0, z1, z2, z3, z4, z5, z6]) rfl ⟨A', c', B', d', C', e', rfl, e2 _ _ N1.out, e2 _ _ N2.out, e2 _ _ N3.out, e1⟩
end
def bs (l : List Bool) : Array Value := (l.map Value.bool).toArray
section
variable {X : List Nat} {B0 : Nat} {w0 w : World} {q N : Nat} {so fu : List (ByteArray × Nat)} {ty : List Fn} {ns : List Nd}
end
theorem round_math (x : Int) (n : Nat) (hn : 0 < n) : ((x.tmod n) + n).tmod n = x % n := by
  have h1 := Int.tmod_eq_emod_of_nonneg (a := x.tmod n + n) (b := n) (by have := Int.lt_tmod_of_pos x (b := (n : Int)) (by omega); omega)
  rw [h1, Int.add_emod_right, Int.tmod_def, Int.sub_eq_add_neg, ← Int.mul_neg, Int.add_mul_emod_self_left]
theorem round_any (x : Int) (n : Nat) (hn : 0 < n) (hl : n ≤ 1000000) (w : World) :
    Calls Tryz.prog 31 #[.int .i64 x, .int .i64 (n : Int)] w fun e w' => e = .returned (.int .i64 (x % (n : Int))) ∧ w = w' := by
  have hm := round_math x n hn
  have b1 := Int.lt_tmod_of_pos x (b := (n : Int)) (by omega)
  have b2 := Int.tmod_lt_of_pos x (b := (n : Int)) (by omega)
  have hm := hide hm
  have hnz : (n : Int) ≠ 0 := by omega
  go_enter Tryz.func31, Tryz.ntmps31
  go_wp2
  go_ret
  exact ⟨rfl, rfl⟩
open Go.Maps (Keyed)
open Go.ChangeMaps Go.MapKept Go.WideMaps
section
variable {X : List Nat} {B0 : Nat} {w0 w : World} {q N : Nat} {so fu : List (ByteArray × Nat)} {ty : List Fn} {ns : List Nd}
end
def dcl : List Fn := [⟨⟨#[120]⟩, [], 1⟩, ⟨⟨#[121]⟩, [], 1⟩, ⟨⟨#[122]⟩, [], 1⟩, ⟨⟨#[112]⟩, [], 0⟩, ⟨⟨#[113]⟩, [], 0⟩, ⟨⟨#[97]⟩, [], 2⟩, ⟨⟨#[98]⟩, [], 2⟩, ⟨⟨#[102]⟩, [1], 1⟩, ⟨⟨#[103]⟩, [2, 1], 2⟩, ⟨⟨#[104]⟩, [2], 0⟩]
def Dl (G : List Nat) (W : World) (g : Nat) : Prop := ∀ i (h : i < dcl.length), ∃ A c, W.cell? ⟨g, i * 3, none⟩ = some (.string dcl[i].nm) ∧ W.cell? ⟨g, i * 3 + 1, none⟩ = some (.slice A dcl[i].ar.length c) ∧ W.cell? ⟨g, i * 3 + 2, none⟩ = some (.int .i64 dcl[i].rs) ∧ Ar G W A dcl[i].ar ∧ (A = none → c = 0)
theorem Dl.same {G : List Nat} {W W' : World} {g : Nat} (h : Dl G W g) (hg : g ∈ G) (hs : Same G W W') : Dl G W' g := by
  intro i hi
  obtain ⟨A, c, h0, h1, h2, h3, h4⟩ := h i hi
  refine ⟨A, c, (World.cell?_of_block (hs g hg)).trans h0, (World.cell?_of_block (hs g hg)).trans h1, (World.cell?_of_block (hs g hg)).trans h2, ?_, h4⟩
  rcases h3 with h3 | ⟨b, o, e, hb, hc⟩
  · exact .inl h3
  · exact .inr ⟨b, o, e, hb, fun j hj => (World.cell?_of_block (a := ⟨b, o + j, none⟩) (hs b hb)).trans (hc j hj)⟩
structure Jd (X : List Nat) (B : Nat) (w0 w : World) (p r k : Nat) (so fu : List (ByteArray × Nat)) (ty : List Fn) (nm : List ByteArray) (fs : List Fn) (T : List Nat) : Prop where
  tb : Tb (r :: X) w p T k 0 so fu ty
  rf : ∃ AN cN AF cF vL, RfP T w r [r] nm fs [] AN cN AF cF vL
  tB : ∀ b ∈ T, B ≤ b
  rB : B ≤ r
  sz : B ≤ w.heap.size
  bl : Below B w0 w
  rX : r ∉ X
section
variable {X : List Nat} {B : Nat} {w0 w w' : World} {p r k : Nat} {so fu : List (ByteArray × Nat)} {ty : List Fn} {nm : List ByteArray} {fs : List Fn} {T : List Nat}
theorem Jd.code (h : Jd X B w0 w p r k so fu ty nm fs T) {T' : List Nat} {k' : Nat} {so' fu' : List (ByteArray × Nat)} {ty' : List Fn} (ht : Tb (r :: X) w' p T' k' 0 so' fu' ty') (hO : Off T w w') (hT : ∀ b ∈ T', b ∈ T ∨ w.heap.size ≤ b) : Jd X B w0 w' p r k' so' fu' ty' nm fs T' ∧ Same X w w' := by
  obtain ⟨AN, cN, AF, cF, vL, hr⟩ := h.rf
  exact ⟨⟨ht, ⟨AN, cN, AF, cF, vL, hr.off hO (fun b hb => .inl hb) hT⟩, fun b hb => (hT b hb).elim (h.tB b) (fun h' => Nat.le_trans h.sz h'), h.rB, Nat.le_trans h.sz hO.size, h.bl.trans (hO.below h.sz h.tB), h.rX⟩, fun b hb => hO.block b (h.tb.xs b (List.mem_cons_of_mem _ hb)).1 (h.tb.xs b (List.mem_cons_of_mem _ hb)).2⟩
theorem Jd.ref (h : Jd X B w0 w p r k so fu ty nm fs T) {nm' : List ByteArray} {fs' : List Fn} (hr : ∃ AN cN AF cF vL, RfP T w' r [r] nm' fs' [] AN cN AF cF vL) (hO : Off [r] w w') : Jd X B w0 w' p r k so fu ty nm' fs' T ∧ Same X w w' := by
  obtain ⟨⟨v1, m1, v2, m2, v3, h1⟩, hn⟩ := h.tb
  have hd : ∀ b ∈ T, b ∉ [r] := fun b hb hm => by
    simp at hm
    subst hm
    exact (h.tb.xs b (by simp)).2 hb
  have hT := h1.eT
  obtain ⟨xs, hx, hF⟩ := h1.tS
  have s0 : p ∈ T := by rw [hT]; simp
  have s1 : ∀ k ∈ bks v1 m1, k ∈ T := fun k hk => by rw [hT]; exact List.mem_cons_of_mem _ (List.mem_append_left _ hk)
  have s2 : ∀ k ∈ bks v2 m2, k ∈ T := fun k hk => by rw [hT]; exact List.mem_cons_of_mem _ (List.mem_append_right _ (List.mem_append_left _ hk))
  have s3 : ∀ k, v3.ownBlock = some k → k ∈ T := fun k hk => by rw [hT]; exact List.mem_cons_of_mem _ (List.mem_append_right _ (List.mem_append_right _ (by rw [Option.mem_toList]; exact hk)))
  have htb : Tb (r :: X) w' p T k 0 so fu ty := ⟨⟨v1, m1, v2, m2, v3, h1.bk.off hO (hd _ s0), h1.sS.off hO (fun k hk => hd k (s1 k hk)) (Nat.le_refl _), h1.fS.off hO (fun k hk => hd k (s2 k hk)) (Nat.le_refl _), ⟨xs, Off.row hx hO (fun k hk => hd k (s3 k hk)), Fs.off hO (fun b hb => .inl (by simp at hb; subst hb; simp)) (fun b hb => .inl hb) hF⟩, h1.eT, h1.once, xs_off h1.xs hO.size (fun b hb => .inl hb)⟩, hn⟩
  exact ⟨⟨htb, hr, h.tB, h.rB, Nat.le_trans h.sz hO.size, h.bl.trans (hO.below h.sz (by intro b hb; simp at hb; subst hb; exact h.rB)), h.rX⟩, fun b hb => hO.block b (h.tb.xs b (List.mem_cons_of_mem _ hb)).1 (fun hm => by simp at hm; subst hm; exact h.rX hb)⟩
theorem Jd.turn {Y : List Nat} (h : Jd X B w0 w p r k so fu ty nm fs T) (hb : Below w.heap.size w w') (hY : ∀ b ∈ Y, (b ∈ X ∨ w.heap.size ≤ b) ∧ b < w'.heap.size) : Jd Y B w0 w' p r k so fu ty nm fs T := by
  obtain ⟨AN, cN, AF, cF, vL, hr⟩ := h.rf
  obtain ⟨⟨v1, m1, v2, m2, v3, h1⟩, hn⟩ := h.tb
  have h1' := h1.below hb
  obtain ⟨xs, hx, hF⟩ := h1.tS
  have hO := Off.of_below hb []
  have hrl := (h1.xs r (by simp)).1
  have htb : Tb (r :: Y) w' p T k 0 so fu ty := by
    refine ⟨⟨v1, m1, v2, m2, v3, h1'.bk, h1'.sS, h1'.fS, ⟨xs, Off.row hx hO (by simp), Fs.off hO (by simp) (fun b hb => ?_) hF⟩, h1'.eT, h1'.once, fun b hb => ⟨?_, fun hm => ?_⟩⟩, hn⟩
    · rcases List.mem_append.1 hb with hb | hb
      · exact .inl (List.mem_append_left _ hb)
      · rcases List.mem_cons.1 hb with rfl | hb
        · exact .inl (by simp)
        · exact (hY b hb).1.imp (fun hx => List.mem_append_right _ (List.mem_cons_of_mem _ hx)) id
    · rcases List.mem_cons.1 hb with rfl | hb'
      · exact Nat.lt_of_lt_of_le hrl hO.size
      · exact (hY b hb').2
    · rcases List.mem_cons.1 hb with rfl | hb'
      · exact (h1.xs b (by simp)).2 hm
      · rcases (hY b hb').1 with hx | hx
        · exact (h1.xs b (List.mem_cons_of_mem _ hx)).2 hm
        · exact Nat.not_lt.2 hx (h1.lt b hm)
  exact ⟨htb, ⟨AN, cN, AF, cF, vL, hr.next hb⟩, h.tB, h.rB, Nat.le_trans h.sz hb.size, h.bl.trans (hb.mono h.sz), fun hm => (hY r hm).1.elim h.rX (fun hle => Nat.not_lt.2 hle hrl)⟩
theorem Jd.tw (h : Jd X B w0 w p r k so fu ty nm fs T) (hk : k ≤ 1000) : Tw X B w0 w p 1000 0 so fu ty := by
  have ht : Tw (r :: X) B w0 w p k 0 so fu ty := ⟨T, h.tb, h.tB, h.bl, h.sz⟩
  exact (ht.mono hk).less (fun b hb => List.mem_cons_of_mem _ hb)
end
theorem dcl_ok : ∀ i : _root_.Fin 10, freeB ((dcl.take i).map fun f => (f.nm, 0)) (dcl.getD i ⟨⟨#[]⟩, [], 0⟩).nm = true ∧ typedB 1 (dcl.getD i ⟨⟨#[]⟩, [], 0⟩).ar (dcl.getD i ⟨⟨#[]⟩, [], 0⟩).rs = true ∧ nameB (dcl.getD i ⟨⟨#[]⟩, [], 0⟩).nm = true ∧
    (dcl.getD i ⟨⟨#[]⟩, [], 0⟩).nm.size = 1 ∧ (dcl.take i).all (fun f => f.nm.data.toList != (dcl.getD i ⟨⟨#[]⟩, [], 0⟩).nm.data.toList) = true := by decide
def nmU : ByteArray := ⟨#[85]⟩
def so0 : List (ByteArray × Nat) := [(nmU, 0)]
def fuN (i : Nat) : List (ByteArray × Nat) := (dcl.take i).map fun f => (f.nm, 0)
theorem dcl_len : dcl.length = 10 := rfl
theorem take_next {i : Nat} (h : i < dcl.length) : dcl.take (i + 1) = dcl.take i ++ [dcl[i]] := by
  rw [List.take_add_one, List.getElem?_eq_getElem h]; rfl
theorem fuN_next {i : Nat} (h : i < dcl.length) : fuN (i + 1) = fuN i ++ [(dcl[i].nm, 0)] := by
  unfold fuN
  rw [take_next h, List.map_append]
  rfl
theorem dcl_at {i : Nat} (h : i < dcl.length) : freeB (fuN i) dcl[i].nm = true ∧ typedB 1 dcl[i].ar dcl[i].rs = true ∧ nameB dcl[i].nm = true ∧ dcl[i].nm.size = 1 ∧ ∀ j (h2 : j < (dcl.take i).length), (dcl.take i)[j].nm.data.toList ≠ dcl[i].nm.data.toList := by
  obtain ⟨h1, h2, h3, h4, h5⟩ := dcl_ok ⟨i, h⟩
  have e : dcl.getD i ⟨⟨#[]⟩, [], 0⟩ = dcl[i] := by simp [List.getD, List.getElem?_eq_getElem h]
  simp only [e] at h1 h2 h3 h4 h5
  refine ⟨h1, h2, h3, h4, fun j h2 => ?_⟩
  rw [List.all_eq_true] at h5
  simpa using h5 _ (List.getElem_mem h2)
theorem Jd.start {w w1 : World} {p : Nat} (h : Tb [] w1 p [p] 0 0 [] [] []) (hp : w.heap.size ≤ p) (hb : Below w.heap.size w w1) :
    Jd [] w.heap.size w (w1.alloc (.cells #[.slice none 0 0, .slice none 0 0, .slice none 0 0] 49)) p w1.heap.size 0 [] [] [] [] [] [p] := by
  have hlt := h.lt
  obtain ⟨⟨v1, m1, v2, m2, v3, h1⟩, hn⟩ := h
  have hb1 := bel_al w1 (.cells #[.slice none 0 0, .slice none 0 0, .slice none 0 0] 49)
  have h1' := h1.below hb1
  obtain ⟨xs, hx, hF⟩ := h1.tS
  have hO := Off.of_below hb1 []
  have hpl := hlt p (by simp)
  refine ⟨⟨⟨v1, m1, v2, m2, v3, h1'.bk, h1'.sS, h1'.fS, ⟨xs, Off.row hx hO (by simp), Fs.off hO (by simp) (fun b hb => ?_) hF⟩, h1'.eT, h1'.once, fun b hb => ?_⟩, hn⟩, ⟨none, 0, none, 0, .slice none 0 0, Bk.new _ _ _, ⟨Nat.le_refl _, Nat.zero_le _, fun _ => rfl⟩, ⟨Nat.le_refl _, Nat.zero_le _, fun _ => rfl⟩, .inl rfl, ⟨[], .inl rfl, rfl⟩, World.ownsRow_nil _ _ _ _, rfl, by simp, ?_⟩, ?_, hb.size, Nat.le_trans hb.size (by simp), hb.trans (hb1.mono hb.size), by simp⟩
  · simp at hb
    rcases hb with rfl | rfl
    · exact .inl (by simp)
    · exact .inr (Nat.le_refl _)
  · simp at hb
    subst hb
    exact ⟨by simp, by simp; omega⟩
  · intro b hb hm
    simp at hb hm
    omega
  · intro b hb; simp at hb; subst hb; exact hp
section
variable {X : List Nat} {B0 : Nat} {w0 w : World} {q N : Nat} {so fu : List (ByteArray × Nat)} {ty : List Fn} {ns : List Nd}
theorem Rx.next {w' : World} {A : Option Addr} {vs : List Value} (h : Rx X B0 w A vs) (hb : Below w.heap.size w w') : Rx X B0 w' A vs := by
  rcases h with h | ⟨b, o, e, h1, h2, h3⟩
  · exact .inl h
  · exact .inr ⟨b, o, e, h1, Nat.lt_of_lt_of_le h2 hb.size, fun j v hj => (hb.cell (p := ⟨b, o + j, none⟩) h2).trans (h3 j v hj)⟩
theorem Rx.ir {A : Option Addr} {xs : List Int} (h : Rx X B0 w A (zs xs)) : Ir [] w A xs :=
  (h.rw (T := []) (by simp) (by simp)).ir
theorem hall_true {ar : List Int} {n : Nat} (h : ∀ a ∈ ar, 0 ≤ a ∧ a < (n : Int)) : ar.all (hasT n) = true := List.all_eq_true.2 fun a ha => hasT_iff.2 (h a ha)
theorem sorted_app_t {s : ByteArray} {C : Option Addr} {n e : Nat} {x : Int} (h : Calls Tryz.prog 79 #[.pointer (some ⟨q, 0, none⟩), .string s, .slice C n e] w fun ee w' => ee = .returned (.tuple #[.int .i64 x, .bool true]) ∧ Below w.heap.size w w') :
    Calls Tryz.prog 56 #[.pointer (some ⟨q, 0, none⟩), .int .i64 12, .string s, .slice C n e] w fun ee w' => ee = .returned (.tuple #[.int .i64 x, .bool true]) ∧ Below w.heap.size w w' := by
  replace h := hide h
  go_enter Tryz.func56, Tryz.ntmps56
  go_wp2_with (go_at_call 79; (with_reducible refine h.out.mono ?_); rintro ee w1 ⟨rfl, hb⟩; replace hb := hide hb)
  go_ret2
  exact ⟨rfl, hb.out⟩
def zArgs (q : Nat) (op : Int) (C : Option Addr) (n e : Nat) : Array Value := mkArgs q op ⟨#[]⟩ false none 0 0 none 0 0 C n e
theorem op_wf (h : Tt X B0 w0 w q N so fu ty ns) (hN : N ≤ 100000) (op : Int) (h1 : 1 ≤ op) (h2 : op ≤ 20) (h11 : op ≠ 11) (h12 : op ≠ 12) (C : Option Addr) (ar : List Int) (e : Nat) (hC : Ir [] w C ar) (nC : ar.length ≤ 64) (o : Obj) :
    Calls Tryz.prog 55 (zArgs q op C ar.length e) (w.alloc o) fun ee w' => ee = .returned (.bool (ar.all (hasT ns.length))) ∧ Below (w.alloc o).heap.size (w.alloc o) w' := by
  obtain ⟨A, c, hv⟩ := tt_vw (h.al o) (by omega)
  exact wf_oth (w.alloc o) q c A ns.length hv.sl op h1 h2 h11 h12 none none 0 0 C ar e [] (hC.al o) nC
theorem op_so (h : Tt X B0 w0 w q N so fu ty ns) (hN : N ≤ 100000) (op : Int) (h1 : 1 ≤ op) (h2 : op ≤ 20) (h12 : op ≠ 12) (nm : ByteArray) (C : Option Addr) (ar : List Int) (e : Nat) (hC : Ir [] w C ar) (nC : ar.length ≤ 64) (hcap : ar.length ≤ e) (he : e ≤ maxLen) (hin : ∀ a ∈ ar, 0 ≤ a ∧ a < (ns.length : Int)) :
    ∀ W, Below w.heap.size w W → Calls Tryz.prog 56 #[.pointer (some ⟨q, 0, none⟩), .int .i64 op, .string nm, .slice C ar.length e] W fun ee w' => ee = .returned (.tuple #[.int .i64 (srtS ns op ar), .bool (srtB ns op ar)]) ∧ Below W.heap.size W w' := by
  intro W hb
  obtain ⟨A, c, hv⟩ := tt_vw (h.next hb) (by omega)
  exact sorted_t op nm hv (hC.off (T' := []) (Off.of_below hb []) (by simp) (by simp)) hin nC hcap he h1 h2 h12
theorem mk_op_new (h : Tt X B0 w0 w q N so fu ty ns) (hN : N ≤ 100000) (op : Int) (h1 : 1 ≤ op) (h2 : op ≤ 20) (h11 : op ≠ 11) (h12 : op ≠ 12) (C : Option Addr) (ar : List Int) (e : Nat) (hC : Rx X B0 w C (zs ar)) (nC : ar.length ≤ 64) (hcap : ar.length ≤ e) (he : e ≤ maxLen) (hin : ∀ a ∈ ar, 0 ≤ a ∧ a < (ns.length : Int)) (hyes : srtB ns op ar = true)
    (hlen : ns.length < 16384) (h16 : op = 16 → 0 < ar.length) (hso : 0 ≤ srtS ns op ar ∧ srtS ns op ar ≤ 100000000) (hwo : 0 ≤ wOf ns op [] ar ∧ wOf ns op [] ar ≤ 2) (hnew : ∀ m ∈ ns, kvl m ≠ kvl ⟨op, ⟨#[]⟩, false, [], [], ar, srtS ns op ar, 0⟩) :
    Calls Tryz.prog 28 (zArgs q op C ar.length e) w fun ee w' => ee = .returned (.tuple #[.int .i64 (ns.length : Int), .int .i64 0]) ∧ Tt X B0 w0 w' q (N + 1) so fu ty (ns ++ [⟨op, ⟨#[]⟩, false, [], [], ar, srtS ns op ar, wOf ns op [] ar⟩]) ∧ Same X w w' := by
  have hw := op_wf h hN op h1 h2 h11 h12 C ar e hC.ir nC (.cells #[.bool false, .slice none 0 0, .slice none 0 0] 28)
  rw [hall_true hin] at hw
  have hs := op_so h hN op h1 h2 h12 ⟨#[]⟩ C ar e hC.ir nC hcap he hin
  rw [hyes] at hs
  refine (mk_put (R := fun W w' => Tt X B0 w0 w' q (N + 1) so fu ty (ns ++ [⟨op, ⟨#[]⟩, false, [], [], ar, srtS ns op ar, wOf ns op [] ar⟩]) ∧ Same X W w') hw _ hs (ns.length : Int) 0 (fun W hb => ?_)).mono fun ee w' ⟨he, W, hb, k1, k2⟩ => ⟨he, k1, (Same.of_below hb (fun b hb => h.lt hb)).trans k2⟩
  exact tt_put (h.next hb) op ⟨#[]⟩ false [] [] ar _ none none C 0 0 e .nil .nil (hC.next hb) (by simp) (by simp) ⟨⟨h1, h2⟩, (show (⟨#[]⟩ : ByteArray).size ≤ 200 from by decide), by simp, by simp, nC, hso, hwo⟩ hin hnew hN hlen h16
end
section
variable {X : List Nat} {B0 : Nat} {w0 w : World} {q N : Nat} {so fu : List (ByteArray × Nat)} {ty : List Fn} {ns : List Nd}
end
end
section
open Go.ChangeShapes Go.RowKit
def MadeTo (tbs : List Tr) (n : Nd) (cs : List CV) (o : CV) : Prop := ∀ (W : World) (g tm N : Nat) (An Bn Cn : Option Addr) (ka kb ke : Nat) (C : Option Addr) (kc : Nat) (vs : List Vl), W.cell? ⟨g, 1, none⟩ = some (.map (some tm)) → Tm W tm N tbs → (∀ t ∈ tbs, t.At [] W ∧ t.Few) → Sl W An n.nu → Sl W Bn n.de → vs.map Vl.cn = cs → Vs [] W C vs → (∀ v ∈ vs, v.Few) → vs.length ≤ kc → kc ≤ maxLen →
  Calls Tryz.prog 84 #[.pointer (some ⟨g, 0, none⟩), .agg (nv n.op n.nm n.ng An n.nu.length ka Bn n.de.length kb Cn n.ar.length ke n.so), .slice C vs.length kc] W (Nwv o W)
structure Ev (ns : List Nd) (tbs : List Tr) (V : Nat → Option CV) (wt : Nat → Nat) : Prop where
  in_ : ∀ i c, V i = some c → i < ns.length
  wt : ∀ i (h : i < ns.length), (V i).isSome = true → 1 + (ns[i].ar.map (fun a => wt a.toNat)).sum ≤ wt i
  made : ∀ i c (h : i < ns.length), V i = some c → ∃ cs : List CV, ns[i].ar.map (fun a => V a.toNat) = cs.map some ∧ MadeTo tbs ns[i] cs c
structure Wk (X : List Nat) (B : Nat) (w0 W : World) (q g tm vm N0 N Nt : Nat) (so fu : List (ByteArray × Nat)) (ty : List Fn) (ns : List Nd) (tbs : List Tr) (V : Nat → Option CV) : Prop where
  tt : Tt X B w0 W q Nt so fu ty ns
  c0 : W.cell? ⟨g, 0, none⟩ = some (.pointer (some ⟨q, 0, none⟩))
  c1 : W.cell? ⟨g, 1, none⟩ = some (.map (some tm))
  c2 : W.cell? ⟨g, 2, none⟩ = some (.map (some vm))
  gX : g ∉ X
  tmm : Tm W tm N0 tbs
  tX : tm ∉ X
  at_ : ∀ t ∈ tbs, t.At X W ∧ t.Few
  me : Mo W vm N ns.length V
  vX : vm ∈ X
  vB : B ≤ vm
section
variable {X Y S : List Nat} {B : Nat} {w0 W W' : World} {q g tm vm N0 N N' Nt : Nat} {so fu : List (ByteArray × Nat)} {ty : List Fn} {ns : List Nd} {tbs : List Tr} {V : Nat → Option CV}
theorem Wk.turn (h : Wk X B w0 W q g tm vm N0 N Nt so fu ty ns tbs V) (hb : Below W.heap.size W W') (hY : ∀ b ∈ Y, (b ∈ X ∨ W.heap.size ≤ b) ∧ b < W'.heap.size) (hv : vm ∈ Y) : Wk Y B w0 W' q g tm vm N0 N Nt so fu ty ns tbs V where
  tt := h.tt.turn hb hY
  c0 := cell_next hb h.c0
  c1 := cell_next hb h.c1
  c2 := cell_next hb h.c2
  gX := fun hm => (hY g hm).1.elim h.gX (fun hle => Nat.not_lt.2 hle (cell_in h.c0))
  tmm := h.tmm.next hb
  tX := fun hm => (hY _ hm).1.elim h.tX (fun hle => Nat.not_lt.2 hle h.tmm.lt)
  at_ := fun t ht => ⟨(h.at_ t ht).1.off (Off.of_below hb []) (Lks.of_below hb) (by simp) (fun b hb => (hY b hb).1), (h.at_ t ht).2⟩
  me := h.me.next hb
  vX := hv
  vB := h.vB
theorem Wk.next (h : Wk X B w0 W q g tm vm N0 N Nt so fu ty ns tbs V) (hb : Below W.heap.size W W') : Wk X B w0 W' q g tm vm N0 N Nt so fu ty ns tbs V :=
  h.turn hb (fun b hm => ⟨.inl hm, Nat.lt_of_lt_of_le (h.tt.lt hm) hb.size⟩) h.vX
theorem Wk.less (h : Wk X B w0 W q g tm vm N0 N Nt so fu ty ns tbs V) (hY : ∀ b ∈ Y, b ∈ X) (hv : vm ∈ Y) : Wk Y B w0 W q g tm vm N0 N Nt so fu ty ns tbs V :=
  h.turn (.refl _ _) (fun b hb => ⟨.inl (hY b hb), h.tt.lt (hY b hb)⟩) hv
theorem Wk.offS (h : Wk X B w0 W q g tm vm N0 N Nt so fu ty ns tbs V) (hO : Off S W W') (hL : Lks W W') (hS : ∀ b ∈ S, b ∈ X ∧ B ≤ b) (hv : vm ∉ S) : Wk X B w0 W' q g tm vm N0 N Nt so fu ty ns tbs V where
  tt := h.tt.offX hO hS
  c0 := hO.cell h.c0 (cell_in h.c0) (fun hm => h.gX (hS g hm).1)
  c1 := hO.cell h.c1 (cell_in h.c1) (fun hm => h.gX (hS g hm).1)
  c2 := hO.cell h.c2 (cell_in h.c2) (fun hm => h.gX (hS g hm).1)
  gX := h.gX
  tmm := h.tmm.off hO (fun hm => h.tX (hS _ hm).1)
  tX := h.tX
  at_ := fun t ht => ⟨(h.at_ t ht).1.off hO hL (fun b hb => .inl (hS b hb).1) (fun b hb => .inl hb), (h.at_ t ht).2⟩
  me := h.me.off hO hL hv
  vX := h.vX
  vB := h.vB
theorem Wk.put (h : Wk X B w0 W q g tm vm N0 N Nt so fu ty ns tbs V) (hO : Off [vm] W W') (hL : Lks W W') (hm : Mo W' vm N' ns.length V) : Wk X B w0 W' q g tm vm N0 N' Nt so fu ty ns tbs V where
  tt := h.tt.offX hO (by intro b hb; simp at hb; subst hb; exact ⟨h.vX, h.vB⟩)
  c0 := hO.cell h.c0 (cell_in h.c0) (fun hm => by simp at hm; subst hm; exact h.gX h.vX)
  c1 := hO.cell h.c1 (cell_in h.c1) (fun hm => by simp at hm; subst hm; exact h.gX h.vX)
  c2 := hO.cell h.c2 (cell_in h.c2) (fun hm => by simp at hm; subst hm; exact h.gX h.vX)
  gX := h.gX
  tmm := h.tmm.off hO (fun hm => by simp at hm; subst hm; exact h.tX h.vX)
  tX := h.tX
  at_ := fun t ht => ⟨(h.at_ t ht).1.off hO hL (fun b hb => by simp at hb; subst hb; exact .inl h.vX) (fun b hb => .inl hb), (h.at_ t ht).2⟩
  me := hm
  vX := h.vX
  vB := h.vB
theorem Tt.args (h : Tt X B w0 W q Nt so fu ty ns) (i : Nat) (hi : i < ns.length) : ∀ a ∈ ns[i].ar, 0 ≤ a ∧ a < (i : Int) := by
  obtain ⟨p, T, v, m1, m2, h1, h2, h3⟩ := h
  exact h1.args i hi
theorem Tt.fit (h : Tt X B w0 W q Nt so fu ty ns) (i : Nat) (hi : i < ns.length) : Fit1 ns[i] := by
  obtain ⟨p, T, v, m1, m2, h1, h2, h3⟩ := h
  exact h1.fit _ (List.getElem_mem hi)
theorem Tt.len (h : Tt X B w0 W q Nt so fu ty ns) : ns.length ≤ Nt := by
  obtain ⟨p, T, v, m1, m2, h1, h2, h3⟩ := h
  exact h1.le
theorem Wk.lks (h : Wk X B w0 W q g tm vm N0 N Nt so fu ty ns tbs V) (hO : Off [vm] W W') : Lks W W' := by
  obtain ⟨es, cl, hm⟩ := h.me.map
  exact Lks.of_map hm hO
end
structure Vq (X : List Nat) (B : Nat) (w0 W : World) (q g tm vm N0 N Nt : Nat) (so fu : List (ByteArray × Nat)) (ty : List Fn) (ns : List Nd) (tbs : List Tr) (V : Nat → Option CV) (wt : Nat → Nat) (n : Nd) (cs : List CV) (a nb : Nat) (An : Option Addr) (ka : Nat) (Bn : Option Addr) (kb : Nat) (Cn : Option Addr) (ke : Nat) (k : Nat) (lv : List Vl) (N' : Nat) (wr : World) : Prop where
  wk : Wk (a :: W.heap.size :: X) B w0 wr q g tm vm N0 N' Nt so fu ty ns tbs V
  off : Off [vm] W wr
  z : Bk W.heap.size zV 30 wr
  nbk : Bk nb (nv n.op n.nm n.ng An n.nu.length ka Bn n.de.length kb Cn n.ar.length ke n.so) 115 wr
  rA : Rw [vm, a] wr An (us n.nu)
  rB : Rw [vm, a] wr Bn (us n.de)
  rC : Rw [vm, a] wr Cn (zs n.ar)
  gx : Gx rV a wr a n.ar.length lv
  len : lv.length = k
  cn : lv.map Vl.cn = cs.take k
  ok : ∀ v ∈ lv, v.At wr ∧ v.Few
  nn : N' ≤ N + ((n.ar.take k).map (fun x => wt x.toNat)).sum
  ne : W.heap.size < nb ∧ nb < a ∧ vm < W.heap.size ∧ B ≤ W.heap.size
section
variable {X : List Nat} {B : Nat} {w0 W wr W' : World} {q g tm vm N0 N Nt : Nat} {so fu : List (ByteArray × Nat)} {ty : List Fn} {ns : List Nd} {tbs : List Tr} {V : Nat → Option CV} {wt : Nat → Nat} {n : Nd} {cs : List CV} {a nb : Nat} {An Bn Cn : Option Addr} {ka kb ke k N' N2 : Nat} {lv : List Vl}
theorem Vq.next (h : Vq X B w0 W q g tm vm N0 N Nt so fu ty ns tbs V wt n cs a nb An ka Bn kb Cn ke k lv N' wr) (hb : Below wr.heap.size wr W') : Vq X B w0 W q g tm vm N0 N Nt so fu ty ns tbs V wt n cs a nb An ka Bn kb Cn ke k lv N' W' :=
  ⟨h.wk.next hb, h.off.trans (Off.of_below hb [vm]) (fun b hb => .inl hb), h.z.next hb, h.nbk.next hb, h.rA.next hb, h.rB.next hb, h.rC.next hb, h.gx.next hb, h.len, h.cn, fun v hv => ⟨(h.ok v hv).1.next hb, (h.ok v hv).2⟩, h.nn, h.ne⟩
theorem Vq.back (h : Vq X B w0 W q g tm vm N0 N Nt so fu ty ns tbs V wt n cs a nb An ka Bn kb Cn ke k lv N' wr) (hk : Wk (a :: W.heap.size :: X) B w0 W' q g tm vm N0 N2 Nt so fu ty ns tbs V) (hO : Off [vm] wr W') (hN : N2 ≤ N' + wt (n.ar.getD k 0).toNat) (hlt : k < n.ar.length) :
    Wk (a :: W.heap.size :: X) B w0 W' q g tm vm N0 N2 Nt so fu ty ns tbs V ∧ Off [vm] W W' ∧ Bk W.heap.size zV 30 W' ∧ Bk nb (nv n.op n.nm n.ng An n.nu.length ka Bn n.de.length kb Cn n.ar.length ke n.so) 115 W' ∧ Rw [vm, a] W' An (us n.nu) ∧ Rw [vm, a] W' Bn (us n.de) ∧ Rw [vm, a] W' Cn (zs n.ar) ∧ Gx rV a W' a n.ar.length lv ∧ (∀ v ∈ lv, v.At W' ∧ v.Few) ∧ N2 ≤ N + ((n.ar.take (k + 1)).map (fun x => wt x.toNat)).sum := by
  obtain ⟨n1, n2, n3, n4⟩ := h.ne
  have hL := h.wk.lks hO
  refine ⟨hk, h.off.trans hO (fun b hb => .inl hb), h.z.off hO (by simp; omega), h.nbk.off hO (by simp; omega), h.rA.off hO (fun b hb => .inl (by simp at hb; simp [hb])) (fun b hb => .inl hb), h.rB.off hO (fun b hb => .inl (by simp at hb; simp [hb])) (fun b hb => .inl hb), h.rC.off hO (fun b hb => .inl (by simp at hb; simp [hb])) (fun b hb => .inl hb), h.gx.off hO (by simp; omega), fun v hv => ⟨(h.ok v hv).1.lk hL, (h.ok v hv).2⟩, ?_⟩
  rw [take_one hlt, List.map_append, List.sum_append]
  have h1 := h.nn
  have h2 : n.ar.getD k 0 = n.ar[k] := by rw [List.getD_eq_getElem?_getD, List.getElem?_eq_getElem hlt]; rfl
  rw [h2] at hN
  simp only [List.map_cons, List.map_nil, List.sum_cons, List.sum_nil]
  omega
theorem Vq.push (h : Vq X B w0 W q g tm vm N0 N Nt so fu ty ns tbs V wt n cs a nb An ka Bn kb Cn ke k lv N' wr) (hw : Wk (a :: W.heap.size :: X) B w0 W' q g tm vm N0 N2 Nt so fu ty ns tbs V) (hO : Off [vm] wr W') (hN : N2 ≤ N' + wt (n.ar.getD k 0).toNat) (hlt : k < n.ar.length) (h64 : n.ar.length ≤ 64) (u : Vl) (hu : some u.cn = cs[k]?) (aU : u.At W') (fU : u.Few) (o : Obj) :
    ∃ W2, (∀ ty, (Builtin.append_ #[25, 25] ty #[.slice (some ⟨a, 0, none⟩) k n.ar.length, .slice (some ⟨(W'.alloc o).heap.size, 0, none⟩) 1 1]).run Tryz.prog ((W'.alloc o).alloc (.cells #[.int .i64 u.so, .bool u.bo, .bool u.p.s, .slice u.p.A u.p.xs.length u.p.a, .slice u.p.B u.p.ys.length u.p.b, .int .i64 u.el] 30)) = .ok (.slice (some ⟨a, 0, none⟩) (k + 1) n.ar.length) W2) ∧
      Vq X B w0 W q g tm vm N0 N Nt so fu ty ns tbs V wt n cs a nb An ka Bn kb Cn ke (k + 1) (lv ++ [u]) N2 W2 := by
  obtain ⟨r1, r2, r3, r4, r5, r6, r7, r8, r9, r10⟩ := h.back hw hO hN hlt
  obtain ⟨n1, n2, n3, n4⟩ := h.ne
  have hb1 : Below W'.heap.size W' (W'.alloc o) := bl_al (.refl _ _) _
  have hb2 : Below W'.heap.size W' ((W'.alloc o).alloc (.cells #[.int .i64 u.so, .bool u.bo, .bool u.p.s, .slice u.p.A u.p.xs.length u.p.a, .slice u.p.B u.p.ys.length u.p.b, .int .i64 u.el] 30)) := bl_al hb1 _
  have hlen := h.len
  obtain ⟨W2, h1, h2, h3⟩ := (r8.next hb2).push rV_ok u (by omega) (Nat.le_of_lt (r8.next hb2).lt) (by omega) (x := (W'.alloc o).heap.size) (Bk.new _ _ _)
  rw [hlen] at h1
  have hG : Gr rV a ((W'.alloc o).alloc (.cells #[.int .i64 u.so, .bool u.bo, .bool u.p.s, .slice u.p.A u.p.xs.length u.p.a, .slice u.p.B u.p.ys.length u.p.b, .int .i64 u.el] 30)) (.slice (some ⟨a, 0, none⟩) lv.length n.ar.length) lv := .inr ⟨a, _, rfl, r8.next hb2⟩
  have hL := hG.lk h3
  have hva : vm ∉ [a] := by simp; omega
  refine ⟨W2, h1, ⟨(r1.next hb2).offS h3 hL (by intro b hb; simp at hb; subst hb; exact ⟨by simp, by omega⟩) hva, (r2.trans (Off.of_below hb2 [vm]) (fun b hb => .inl hb)).trans h3 (by intro b hb; simp at hb; subst hb; exact .inr (by omega)), (r3.next hb2).off h3 (by simp; omega), (r4.next hb2).off h3 (by simp; omega),
    (r5.next hb2).off h3 (fun b hb => .inl (by simp at hb; simp [hb])) (fun b hb => .inl hb), (r6.next hb2).off h3 (fun b hb => .inl (by simp at hb; simp [hb])) (fun b hb => .inl hb), (r7.next hb2).off h3 (fun b hb => .inl (by simp at hb; simp [hb])) (fun b hb => .inl hb), h2, by simp [hlen], ?_, fun v hv => ?_, r10, h.ne⟩⟩
  · rw [List.map_append, h.cn, List.take_add_one, ← hu]
    rfl
  · rcases List.mem_append.1 hv with hv | hv
    · exact ⟨((r9 v hv).1.next hb2).lk hL, (r9 v hv).2⟩
    · simp at hv
      subst hv
      exact ⟨(aU.next hb2).lk hL, fU⟩
end
end
section
open Go.ChangeShapes Go.RowKit
section
variable {X : List Nat} {B : Nat} {w0 W : World} {q g tm vm N0 N Nt : Nat} {so fu : List (ByteArray × Nat)} {ty : List Fn} {ns : List Nd} {tbs : List Tr} {V : Nat → Option CV} {wt : Nat → Nat} {n : Nd} {cs : List CV} {An Bn Cn : Option Addr} {ka kb ke : Nat}
theorem Vq.start (h : Wk X B w0 W q g tm vm N0 N Nt so fu ty ns tbs V) (hB : B ≤ W.heap.size) (w2 : World) (hb : Below ((W.alloc (.cells #[.int .i64 0, .bool false, .bool false, .slice none 0 0, .slice none 0 0, .int .i64 0] 30)).alloc (.cells #[.int .i64 0, .bool false, .bool false, .slice none 0 0, .slice none 0 0, .int .i64 0] 30)).heap.size ((W.alloc (.cells #[.int .i64 0, .bool false, .bool false, .slice none 0 0, .slice none 0 0, .int .i64 0] 30)).alloc (.cells #[.int .i64 0, .bool false, .bool false, .slice none 0 0, .slice none 0 0, .int .i64 0] 30)) w2) (h64 : n.ar.length ≤ 64)
    (nA : Nw ((W.alloc (.cells #[.int .i64 0, .bool false, .bool false, .slice none 0 0, .slice none 0 0, .int .i64 0] 30)).alloc (.cells #[.int .i64 0, .bool false, .bool false, .slice none 0 0, .slice none 0 0, .int .i64 0] 30)) w2 An (us n.nu)) (nB : Nw ((W.alloc (.cells #[.int .i64 0, .bool false, .bool false, .slice none 0 0, .slice none 0 0, .int .i64 0] 30)).alloc (.cells #[.int .i64 0, .bool false, .bool false, .slice none 0 0, .slice none 0 0, .int .i64 0] 30)) w2 Bn (us n.de)) (nC : Nw ((W.alloc (.cells #[.int .i64 0, .bool false, .bool false, .slice none 0 0, .slice none 0 0, .int .i64 0] 30)).alloc (.cells #[.int .i64 0, .bool false, .bool false, .slice none 0 0, .slice none 0 0, .int .i64 0] 30)) w2 Cn (zs n.ar)) :
    Vq X B w0 W q g tm vm N0 N Nt so fu ty ns tbs V wt n cs (w2.heap.size + 1) w2.heap.size An ka Bn kb Cn ke 0 [] N ((w2.alloc (.cells (nv n.op n.nm n.ng An n.nu.length ka Bn n.de.length kb Cn n.ar.length ke n.so) 115)).alloc (rV.mz n.ar.length)) := by
  have hvl := h.me.lt
  have hsz : ((W.alloc (.cells #[.int .i64 0, .bool false, .bool false, .slice none 0 0, .slice none 0 0, .int .i64 0] 30)).alloc (.cells #[.int .i64 0, .bool false, .bool false, .slice none 0 0, .slice none 0 0, .int .i64 0] 30)).heap.size = W.heap.size + 1 + 1 := by simp
  have hb0 : Below W.heap.size W ((W.alloc (.cells #[.int .i64 0, .bool false, .bool false, .slice none 0 0, .slice none 0 0, .int .i64 0] 30)).alloc (.cells #[.int .i64 0, .bool false, .bool false, .slice none 0 0, .slice none 0 0, .int .i64 0] 30)) := bl_al (bl_al (.refl _ _) _) _
  have hb2 : Below w2.heap.size w2 ((w2.alloc (.cells (nv n.op n.nm n.ng An n.nu.length ka Bn n.de.length kb Cn n.ar.length ke n.so) 115)).alloc (rV.mz n.ar.length)) := bl_al (bl_al (.refl _ _) _) _
  have hbw := bl_trans (bl_trans hb0 hb) hb2
  have hs2 := hb.size
  rw [hsz] at hs2
  have hrow : ∀ (A : Option Addr) (vs : List Value), Nw ((W.alloc (.cells #[.int .i64 0, .bool false, .bool false, .slice none 0 0, .slice none 0 0, .int .i64 0] 30)).alloc (.cells #[.int .i64 0, .bool false, .bool false, .slice none 0 0, .slice none 0 0, .int .i64 0] 30)) w2 A vs → Rw [vm, w2.heap.size + 1] ((w2.alloc (.cells (nv n.op n.nm n.ng An n.nu.length ka Bn n.de.length kb Cn n.ar.length ke n.so) 115)).alloc (rV.mz n.ar.length)) A vs := fun A vs hN => by
    have h1 := hN [vm] (by intro b hb; simp at hb; subst hb; rw [hsz]; omega)
    exact h1.off (Off.of_below hb2 []) (by simp) (by intro b hb; simp at hb; rcases hb with rfl | rfl; exact .inl (by simp); exact .inr (by omega))
  refine ⟨h.turn hbw (fun b hm => ?_) (by simp [h.vX]), Off.of_below hbw [vm], ?_, ?_, hrow _ _ nA, hrow _ _ nB, hrow _ _ nC, ?_, rfl, by simp, by simp, by simp, by omega, by omega, hvl, hB⟩
  · simp only [List.mem_cons] at hm
    rcases hm with rfl | rfl | hm
    · exact ⟨.inr (by omega), by simp⟩
    · exact ⟨.inr (Nat.le_refl _), by simp; omega⟩
    · exact ⟨.inl hm, by have := h.tt.lt hm; simp; omega⟩
  · exact (((Bk.new _ _ W).al _).next hb).next hb2
  · exact (Bk.new _ _ w2).al _
  · have := Gx.new (B := w2.heap.size + 1) rV_ok (w2.alloc (.cells (nv n.op n.nm n.ng An n.nu.length ka Bn n.de.length kb Cn n.ar.length ke n.so) 115)) n.ar.length (by omega) (by simp)
    simpa using this
end
theorem sl_back {W : World} {c : Array Value} {t : TypeId} (hn : ∀ v ∈ c.toList, noU v = true) {A : Option Addr} {xs : List Nat} (hs : Sl (W.alloc (.cells c t)) A xs) : Sl W A xs := by
  rcases hs with hs | ⟨b, o, e, hb, hc⟩
  · exact .inl hs
  by_cases hx : xs = []
  · exact .inl hx
  have hB : Bk W.heap.size c t (W.alloc (.cells c t)) := Bk.new _ _ _
  have hbg : b ≠ W.heap.size := by
    rintro rfl
    have h0 := hc 0 (List.length_pos_iff.2 hx)
    rw [cell_of_row _ W.heap.size (o + 0) c _ (0, 0) hB] at h0
    have := hn _ (List.mem_of_getElem? (by rw [Array.getElem?_toList]; exact h0))
    cases this
  have hlt : b < W.heap.size := by
    have : b < (W.alloc (.cells c t)).heap.size := hb
    simp at this
    omega
  refine .inr ⟨b, o, e, hlt, fun j hj => ?_⟩
  have := hc j hj
  rwa [World.cell?_alloc_lt _ _ _ hlt] at this
section
variable {B : Nat} {w0 : World} {q g tm vm N0 Nt : Nat} {so fu : List (ByteArray × Nat)} {ty : List Fn} {ns : List Nd} {tbs : List Tr} {V : Nat → Option CV} {wt : Nat → Nat}
def Vo (B : Nat) (w0 : World) (q g tm vm N0 Nt : Nat) (so fu : List (ByteArray × Nat)) (ty : List Fn) (ns : List Nd) (tbs : List Tr) (V : Nat → Option CV) (X : List Nat) (N d : Nat) (c : CV) (W : World) (e : Ending) (w' : World) : Prop :=
  ∃ (u : Vl) (N' : Nat), e = .returned (.tuple #[u.v, .int .i64 0]) ∧ u.cn = c ∧ u.At w' ∧ u.Few ∧ N' ≤ N + d ∧ Wk X B w0 w' q g tm vm N0 N' Nt so fu ty ns tbs V ∧ Off [vm] W w'
theorem vo_end {X : List Nat} {N N' d : Nat} {c : CV} {W W1 F : World} {Y : List Nat} (h : Wk Y B w0 W1 q g tm vm N0 N' Nt so fu ty ns tbs V) (hO : Off [vm] W W1) (hz : Bk W.heap.size zV 30 W1) (hX : ∀ b ∈ X, b ∈ Y) (hY : W.heap.size ∈ Y) (hvX : vm ∈ X) (hv : vm < W.heap.size) (hB : B ≤ W.heap.size) (u : Vl) (hu : u.cn = c) (aU : u.At W1) (fU : u.Few) (hN : N' ≤ N + d) (hF : F = set6 W1 W.heap.size (.int .i64 u.so) (.bool u.bo) (.bool u.p.s) (.slice u.p.A u.p.xs.length u.p.a) (.slice u.p.B u.p.ys.length u.p.b) (.int .i64 u.el)) :
    C6 W.heap.size (.int .i64 u.so) (.bool u.bo) (.bool u.p.s) (.slice u.p.A u.p.xs.length u.p.a) (.slice u.p.B u.p.ys.length u.p.b) (.int .i64 u.el) F ∧ Vo B w0 q g tm vm N0 Nt so fu ty ns tbs V X N d c W (.returned (.tuple #[.agg #[.int .i64 u.so, .bool u.bo, .bool u.p.s, .slice u.p.A u.p.xs.length u.p.a, .slice u.p.B u.p.ys.length u.p.b, .int .i64 u.el], .int .i64 0])) F := by
  subst hF
  have hO2 := off_set6 W1 W.heap.size (.int .i64 u.so) (.bool u.bo) (.bool u.p.s) (.slice u.p.A u.p.xs.length u.p.a) (.slice u.p.B u.p.ys.length u.p.b) (.int .i64 u.el)
  have hL := Lks.of_bk hz zV_no hO2
  exact ⟨C6.of (bk_set6 hz _ _ _ _ _ _), u, N', rfl, hu, aU.lk hL, fU, hN, (h.offS hO2 hL (by intro b hb; simp at hb; subst hb; exact ⟨hY, hB⟩) (by simp; omega)).less hX hvX, hO.trans hO2 (by intro b hb; simp at hb; subst hb; exact .inr (Nat.le_refl _))⟩
theorem value_any (hE : Ev ns tbs V wt) (hNt : Nt ≤ 100000) : ∀ (k i : Nat), i < k → ∀ c, V i = some c → ∀ (X : List Nat) (W : World) (N : Nat), Wk X B w0 W q g tm vm N0 N Nt so fu ty ns tbs V → N + wt i ≤ 100000 →
    Calls Tryz.prog 59 #[.pointer (some ⟨g, 0, none⟩), .int .i64 (i : Int)] W (Vo B w0 q g tm vm N0 Nt so fu ty ns tbs V X N (wt i) c W) := by
  intro k
  induction k with
  | zero => intro i hi; omega
  | succ k ih =>
    intro i hik c hc X W N hW hN
    by_cases hik2 : i < k
    · exact ih i hik2 c hc X W N hW hN
    have hi := hE.in_ i c hc
    have hlen := hW.tt.len
    have hbase := hW.tt.base
    have hvl := hW.me.lt
    have hz0 : Below W.heap.size W (W.alloc (.cells #[.int .i64 0, .bool false, .bool false, .slice none 0 0, .slice none 0 0, .int .i64 0] 30)) := bl_al (.refl _ _) _
    have g0 := cell_next hz0 hW.c0
    have g2 := cell_next hz0 hW.c2
    have hi2 : (i : Int) < (ns.length : Int) := by omega
    rcases (hW.me.next hz0).look i hi (by omega) with ⟨v, hlk, aV, fV, hv⟩ | hlk
    · -- it is there
      have hcv : v.cn = c := by rw [hc] at hv; injection hv with hv; exact hv.symm
      have hb2 : Below W.heap.size W ((W.alloc (.cells #[.int .i64 v.so, .bool v.bo, .bool v.p.s, .slice v.p.A v.p.xs.length v.p.a, .slice v.p.B v.p.ys.length v.p.b, .int .i64 v.el] 30)).alloc (.cells #[.int .i64 v.so, .bool v.bo, .bool v.p.s, .slice v.p.A v.p.xs.length v.p.a, .slice v.p.B v.p.ys.length v.p.b, .int .i64 v.el] 30)) := bl_al (bl_al (.refl _ _) _) _
      have hend : Vo B w0 q g tm vm N0 Nt so fu ty ns tbs V X N (wt i) c W (.returned (.tuple #[.agg #[.int .i64 v.so, .bool v.bo, .bool v.p.s, .slice v.p.A v.p.xs.length v.p.a, .slice v.p.B v.p.ys.length v.p.b, .int .i64 v.el], .int .i64 0])) ((W.alloc (.cells #[.int .i64 v.so, .bool v.bo, .bool v.p.s, .slice v.p.A v.p.xs.length v.p.a, .slice v.p.B v.p.ys.length v.p.b, .int .i64 v.el] 30)).alloc (.cells #[.int .i64 v.so, .bool v.bo, .bool v.p.s, .slice v.p.A v.p.xs.length v.p.a, .slice v.p.B v.p.ys.length v.p.b, .int .i64 v.el] 30)) :=
        ⟨v, N, rfl, hcv, ⟨kp' hb2 (sl_back zV_no aV.1), kp' hb2 (sl_back zV_no aV.2)⟩, fV, Nat.le_add_right _ _, hW.next hb2, Off.of_below hb2 [vm]⟩
      unfold Vl.v at hlk
      replace hend := hide hend
      generalize v.p.xs.length = i1 at *
      generalize v.p.ys.length = i2 at *
      have hi' := hide hi
      clear hW hE ih hc hcv hv aV fV hz0 hi hb2
      go_enter Tryz.func59, Tryz.ntmps59
      go_wp2_with fail
      exact bodyPost_ret (v := .tuple #[.agg #[.int .i64 v.so, .bool v.bo, .bool v.p.s, .slice v.p.A i1 v.p.a, .slice v.p.B i2 v.p.b, .int .i64 v.el], .int .i64 0]) (by simp [results, Tryz.results59, go_sem]) rfl hend.out
    · have hfit := hW.tt.fit i hi
      have hargs := hW.tt.args i hi
      obtain ⟨cs, hcs, hmade⟩ := hE.made i c hi hc
      have hwt := hE.wt i hi (by rw [hc]; rfl)
      have hb2 : Below W.heap.size W ((W.alloc (.cells #[.int .i64 0, .bool false, .bool false, .slice none 0 0, .slice none 0 0, .int .i64 0] 30)).alloc (.cells #[.int .i64 0, .bool false, .bool false, .slice none 0 0, .slice none 0 0, .int .i64 0] 30)) := bl_al hz0 _
      have hND := node_t (hW.tt.next hb2) hNt i hi
      have g02 := cell_next hb2 hW.c0
      generalize ns[i] = n at *
      have h64 := hfit.ar
      have hclen : cs.length = n.ar.length := by have := congrArg List.length hcs; simpa using this.symm
      have hVj : ∀ k (hk : k < n.ar.length), ∃ (j : Nat) (x : CV), n.ar[k] = (j : Int) ∧ j < i ∧ V j = some x ∧ cs[k]? = some x ∧ wt (n.ar.getD k 0).toNat = wt j := fun k hk => by
        obtain ⟨h1, h2⟩ := hargs _ (List.getElem_mem hk)
        have h3 := congrArg (fun l => l[k]?) hcs
        simp only [List.getElem?_map, List.getElem?_eq_getElem hk, List.getElem?_eq_getElem (show k < cs.length by omega), Option.map_some] at h3
        injection h3 with h3
        exact ⟨n.ar[k].toNat, cs[k]'(by omega), by omega, by omega, h3, List.getElem?_eq_getElem (by omega), by rw [List.getD_eq_getElem?_getD, List.getElem?_eq_getElem hk]; rfl⟩
      have hsum : ∀ k, ((n.ar.take k).map (fun x => wt x.toNat)).sum ≤ (n.ar.map (fun x => wt x.toNat)).sum := fun k => by
        conv => rhs; rw [← List.take_append_drop k n.ar, List.map_append, List.sum_append]
        omega
      have hstart := hide (fun (w2 : World) (An Bn Cn : Option Addr) (ka kb ke : Nat) hb nA nB nC => Vq.start (n := n) (cs := cs) (wt := wt) (An := An) (Bn := Bn) (Cn := Cn) (ka := ka) (kb := kb) (ke := ke) hW hbase w2 hb h64 nA nB nC)
      have hmk := hide (fun (W : World) => (show (Instr.makeSlice 25 (.int .i64 0) (.int .i64 (n.ar.length : Int))).run Tryz.prog W = .ok (.slice (some ⟨W.heap.size, 0, none⟩) 0 n.ar.length) (W.alloc (rV.mz n.ar.length)) from rV_ok.make n.ar.length (by omega) W))
      have hmk := hmk.out
      have hXs : ∀ b ∈ X, b < W.heap.size := fun b hb => hW.tt.lt hb
      have hvX := hW.vX
      unfold zVl Vl.v at hlk
      dsimp only at hlk
      simp only [List.length_nil] at hlk
      unfold nv at hND
      replace hND := hide hND; replace hVj := hide hVj; replace hsum := hide hsum; replace hmade := hide hmade; replace ih := hide ih; replace hargs := hide hargs; replace hcs := hide hcs; replace hwt := hide hwt
      have hi' := hide hi
      have hm64 : n.ar.length ≤ 64 := h64
      replace hXs := hide hXs; replace hvX := hide hvX
      have hc' := hide hc
      clear hW hz0 hb2 hfit hE hc hi h64
      go_enter Tryz.func59, Tryz.ntmps59
      go_wp2_with (go_at_call 58; (with_reducible refine hND.out.mono ?_); rintro e w2 ⟨An, ka, Bn, kb, Cn, ke, rfl, nA, nB, nC, hb⟩; have hS0 := hide (hstart.out w2 An Bn Cn ka kb ke hb nA nB nC); clear nA nB nC hb hstart hND)
      go_loopw [10, 44] (fun v ix wr => ∃ (k : Nat) (lv : List Vl) (N' : Nat), k ≤ n.ar.length ∧ ix = .int .i64 (k : Int) ∧ v = .slice (some ⟨w2.heap.size + 1, 0, none⟩) k n.ar.length ∧ Vq X B w0 W q g tm vm N0 N Nt so fu ty ns tbs V wt n cs (w2.heap.size + 1) w2.heap.size An ka Bn kb Cn ke k lv N' wr) (fun _ ix _ => n.ar.length - (intOf ix).toNat)
      case atStart => exact ⟨0, [], N, Nat.zero_le _, rfl, rfl, hS0.out⟩
      case round =>
        obtain ⟨k', lv, N', hk, rfl, rfl, hV⟩ := hrel
        by_cases hlt : k' < n.ar.length
        · obtain ⟨j, x, hj1, hj2, hj3, hj4, hj5⟩ := hVj.out k' hlt
          have hr := hV.rC
          rcases hr with hr | ⟨bc, oc, rfl, _, _, hcell⟩
          · have := congrArg List.length hr
            rw [zs_len] at this
            rw [this] at hlt
            simp at hlt
          have c0 := hcell k' (.int .i64 (j : Int)) (by unfold zs; rw [List.getElem?_map, List.getElem?_eq_getElem hlt, hj1]; rfl)
          have hb1 := hV.nn
          have hb2 := hsum.out (k' + 1)
          have hb3 : ((n.ar.take (k' + 1)).map (fun x => wt x.toNat)).sum = ((n.ar.take k').map (fun x => wt x.toNat)).sum + wt j := by
            rw [take_one hlt, List.map_append, List.sum_append, hj1]
            simp
          have hb4 := hwt.out
          have hIH := ih.out j (by omega) x hj3 _ wr N' hV.wk (by omega)
          unfold Vo Vl.v at hIH
          have hpu := fun (W' : World) (u : Vl) (N2 : Nat) (hN2 : N2 ≤ N' + wt j) (hw : Wk ((w2.heap.size + 1) :: W.heap.size :: X) B w0 W' q g tm vm N0 N2 Nt so fu ty ns tbs V) (hO : Off [vm] wr W') (hu : u.cn = x) (aU : u.At W') (fU : u.Few) (o : Obj) => hV.push hw hO (by rw [hj5]; exact hN2) hlt hm64 u (by rw [hu, hj4]) aU fU o
          replace hIH := hide hIH; replace hpu := hide hpu
          have hlt' : (k' : Int) < (n.ar.length : Int) := by omega
          clear hb1 hb2 hb3 hb4 hcell hj1 hj4 hj5 hV
          go_wp2_with (first
            | (go_at_call 59; (with_reducible refine hIH.out.mono ?_); rintro e w4 ⟨u, N2, rfl, u1, u2, u3, u4, u5, u6⟩; obtain ⟨w5, hap, hV5⟩ := hpu.out w4 u N2 u4 u5 u6 u1 u2 u3 (.cells #[.int .i64 u.so, .bool u.bo, .bool u.p.s, .slice u.p.A u.p.xs.length u.p.a, .slice u.p.B u.p.ys.length u.p.b, .int .i64 u.el] 30); simp only [World.size_alloc] at hap; replace hV5 := hide hV5; clear u1 u2 u3 u4 u5 u6 hpu hIH)
            | (at_builtin; refine wpList_append_run _ rfl _ _ _ rfl _ _ _ _ rfl rfl hap ?_))
          go_roundw
          case rel => exact ⟨k' + 1, _, N2, hlt, by go_num, rfl, hV5.out⟩
          case measure => simp only [intOf]; omega
        · have hkk : k' = n.ar.length := by omega
          subst hkk
          have hwk := hV.wk
          have hcn : lv.map Vl.cn = cs := by rw [hV.cn, ← hclen, List.take_length]
          have hMade := hmade.out wr g tm N0 An Bn Cn ka kb ke (some ⟨w2.heap.size + 1, 0, none⟩) n.ar.length lv hwk.c1 hwk.tmm (fun t ht => ⟨(hwk.at_ t ht).1.off (Off.refl [] wr) (Lks.refl wr) (by simp) (by simp), (hwk.at_ t ht).2⟩) hV.rA.sl hV.rB.sl hcn ⟨hV.gx.rl rV_ok (by simp), fun v hv => (hV.ok v hv).1⟩ (fun v hv => (hV.ok v hv).2) (by rw [hV.len]; exact Nat.le_refl _) (by unfold maxLen; omega)
          rw [hV.len] at hMade
          unfold Nwv nv Vl.v at hMade
          obtain ⟨n1, n2, n3, n4⟩ := hV.ne
          have hnb := hV.nbk
          obtain ⟨p0, p1, p2, p3, p4, p5, p6⟩ := cells7 hnb
          have hpost := fun (w4 : World) (u : Vl) (hb : Below wr.heap.size wr w4) (hu : u.cn = c) (aU : u.At w4) (fU : u.Few) => (show ∃ W6, (Instr.mapUpdate 118 (.map (some vm)) (.int .i64 (i : Int)) u.v).run Tryz.prog (w4.alloc (.cells #[.int .i64 u.so, .bool u.bo, .bool u.p.s, .slice u.p.A u.p.xs.length u.p.a, .slice u.p.B u.p.ys.length u.p.b, .int .i64 u.el] 30)).drew = .ok () W6 ∧ (w4.alloc (.cells #[.int .i64 u.so, .bool u.bo, .bool u.p.s, .slice u.p.A u.p.xs.length u.p.a, .slice u.p.B u.p.ys.length u.p.b, .int .i64 u.el] 30)).cell? ⟨g, 2, none⟩ = some (.map (some vm)) ∧ Bk w4.heap.size #[.int .i64 u.so, .bool u.bo, .bool u.p.s, .slice u.p.A u.p.xs.length u.p.a, .slice u.p.B u.p.ys.length u.p.b, .int .i64 u.el] 30 W6 ∧ Bk W.heap.size zV 30 W6 ∧
              ∀ F, F = set6 W6 W.heap.size (.int .i64 u.so) (.bool u.bo) (.bool u.p.s) (.slice u.p.A u.p.xs.length u.p.a) (.slice u.p.B u.p.ys.length u.p.b) (.int .i64 u.el) → C6 W.heap.size (.int .i64 u.so) (.bool u.bo) (.bool u.p.s) (.slice u.p.A u.p.xs.length u.p.a) (.slice u.p.B u.p.ys.length u.p.b) (.int .i64 u.el) F ∧ Vo B w0 q g tm vm N0 Nt so fu ty ns tbs V X N (wt i) c W (.returned (.tuple #[.agg #[.int .i64 u.so, .bool u.bo, .bool u.p.s, .slice u.p.A u.p.xs.length u.p.a, .slice u.p.B u.p.ys.length u.p.b, .int .i64 u.el], .int .i64 0])) F from by
            have hb5 : Below wr.heap.size wr (w4.alloc (.cells #[.int .i64 u.so, .bool u.bo, .bool u.p.s, .slice u.p.A u.p.xs.length u.p.a, .slice u.p.B u.p.ys.length u.p.b, .int .i64 u.el] 30)) := bl_trans hb (bl_al (.refl _ _) _)
            have hV5 := hV.next (bl_trans hb ((bl_al (Below.refl w4.heap.size w4) (.cells #[.int .i64 u.so, .bool u.bo, .bool u.p.s, .slice u.p.A u.p.xs.length u.p.a, .slice u.p.B u.p.ys.length u.p.b, .int .i64 u.el] 30)).drew))
            have hnn := hV5.nn
            have hs1 := hsum.out n.ar.length
            have hs2 := hwt.out
            have aU5 : u.At (w4.alloc (.cells #[.int .i64 u.so, .bool u.bo, .bool u.p.s, .slice u.p.A u.p.xs.length u.p.a, .slice u.p.B u.p.ys.length u.p.b, .int .i64 u.el] 30)).drew := aU.next ((bl_al (Below.refl _ _) _).drew)
            obtain ⟨W6, r1, r2, r3, r4⟩ := hV5.wk.me.store i (by omega) hi'.out (by unfold maxLen; omega) u aU5 fU (by rw [hu]; exact hc'.out)
            have hbk : Bk w4.heap.size #[.int .i64 u.so, .bool u.bo, .bool u.p.s, .slice u.p.A u.p.xs.length u.p.a, .slice u.p.B u.p.ys.length u.p.b, .int .i64 u.el] 30 (w4.alloc (.cells #[.int .i64 u.so, .bool u.bo, .bool u.p.s, .slice u.p.A u.p.xs.length u.p.a, .slice u.p.B u.p.ys.length u.p.b, .int .i64 u.el] 30)).drew := Bk.new _ _ w4
            have hw4 := hb.size
            have hwsz := hV.off.size
            refine ⟨W6, r1, cell_next hb5 hwk.c2, hbk.off r3 (by simp; omega), hV5.z.off r3 (by simp; omega), fun F hF => ?_⟩
            exact vo_end (X := X) (N := N) (d := wt i) (c := c) (hV5.wk.put r3 r4 r2) (hV5.off.trans r3 (fun b hb => .inl hb)) (hV5.z.off r3 (by simp; omega)) (fun b hb => by simp [hb]) (by simp) hvX.out n3 n4 u hu (aU5.lk r4) fU (by omega) hF)
          unfold Vl.v at hpost
          replace hMade := hide hMade; replace hpost := hide hpost
          clear hwk hcn hnb hV n1 n2
          go_wp2_with (go_at_call 84; (with_reducible refine hMade.out.mono ?_); rintro e w4 ⟨u, rfl, u1, u2, u3, u4⟩; obtain ⟨W6, hup, hg2, hb6, hz6, hend⟩ := hpost.out w4 u u4 u1 u2 u3; replace hend := hide hend; replace hb6 := hide hb6; replace hz6 := hide hz6; clear u1 u2 u3 u4 hpost hMade; generalize u.p.xs.length = j1 at *; generalize u.p.ys.length = j2 at *)
          go_region
          all_goals
            obtain ⟨b0, b1, b2, b3, b4, b5⟩ := C6.of hb6.out
            obtain ⟨z0, z1, z2, z3, z4, z5⟩ : C6 W.heap.size _ _ _ _ _ _ W6 := C6.of hz6.out
            obtain ⟨f0, f1, f2, f3, f4, f5⟩ := free6 hz6.out
            go_wp2_with fail
            obtain ⟨F, hF⟩ : ∃ F, F = set6 W6 W.heap.size (.int .i64 u.so) (.bool u.bo) (.bool u.p.s) (.slice u.p.A j1 u.p.a) (.slice u.p.B j2 u.p.b) (.int .i64 u.el) := ⟨_, rfl⟩
            clear z0 z1 z2 z3 z4 z5
            obtain ⟨⟨z0, z1, z2, z3, z4, z5⟩, e1⟩ := hend.out F hF
            unfold set6 at hF
            rw [← hF]
            exact bodyPost_ret (v := .tuple #[.agg #[.int .i64 u.so, .bool u.bo, .bool u.p.s, .slice u.p.A j1 u.p.a, .slice u.p.B j2 u.p.b, .int .i64 u.el], .int .i64 0]) (by simp [results, Tryz.results59, go_sem, z0, z1, z2, z3, z4, z5]) rfl e1
end
end
section
open Go.ChangeShapes Go.RowKit
section
variable {X : List Nat} {B : Nat} {w0 W : World} {q Nt : Nat} {so fu : List (ByteArray × Nat)} {ty : List Fn} {ns : List Nd}
theorem node_no (h : Tt X B w0 W q Nt so fu ty ns) (hN : Nt ≤ 100000) (x : Int) (hx : hasT ns.length x = false) :
    Calls Tryz.prog 58 #[.pointer (some ⟨q, 0, none⟩), .int .i64 x] W fun ee w' => ee = .returned (.tuple #[.agg #[.int .i64 0, .string ⟨#[]⟩, .bool false, .slice none 0 0, .slice none 0 0, .slice none 0 0, .int .i64 0], .bool false]) ∧ Below W.heap.size W w' := by
  have hb0 : Below W.heap.size W (W.alloc (.cells #[.int .i64 0, .string ⟨#[]⟩, .bool false, .slice none 0 0, .slice none 0 0, .slice none 0 0, .int .i64 0] 115)) := bl_al (.refl _ _) _
  obtain ⟨A, c, hv⟩ := tt_vw (h.next hb0) (by omega)
  have hh := has_t q ns.length c A x (W.alloc (.cells #[.int .i64 0, .string ⟨#[]⟩, .bool false, .slice none 0 0, .slice none 0 0, .slice none 0 0, .int .i64 0] 115)) hv.sl
  rw [hx] at hh
  replace hh := hide hh
  replace hb0 := hide hb0
  clear h hv hx
  go_enter Tryz.func58, Tryz.ntmps58
  go_wp2_with (go_at_call 76; (with_reducible refine hh.out.mono ?_); rintro ee w' ⟨rfl, rfl⟩)
  exact bodyPost_ret (v := .tuple #[.agg #[.int .i64 0, .string ⟨#[]⟩, .bool false, .slice none 0 0, .slice none 0 0, .slice none 0 0, .int .i64 0], .bool false]) (by simp [results, Tryz.results58, go_sem]) rfl ⟨rfl, hb0.out⟩
end
section
variable {B : Nat} {w0 W : World} {q Nt : Nat} {so fu : List (ByteArray × Nat)} {ty : List Fn} {ns : List Nd} {tbs : List Tr}
def Evo (P : CV → Int → Prop) (W : World) (e : Ending) (w' : World) : Prop := ∃ (u : Vl) (k : Int), e = .returned (.tuple #[u.v, .int .i64 k]) ∧ P u.cn k ∧ u.At w' ∧ u.Few ∧ Below W.heap.size W w'
theorem eval_gen (h : Tt [] B w0 W q Nt so fu ty ns) (hNt : Nt ≤ 100000) (A : Option Addr) (kc : Nat) {Z : List Nat} (hT : Ts Z W A tbs) (fT : ∀ t ∈ tbs, t.Few) (nT : tbs.length ≤ 100000) (sT : ∀ t ∈ tbs, t.nm.size ≤ maxLen) (V : Nat → Option CV) (i : Nat) (hi : i < ns.length) (P : CV → Int → Prop)
    (hVal : ∀ (g tm vm N0 : Nat) (W5 : World), Wk [vm] B w0 W5 q g tm vm N0 0 Nt so fu ty ns tbs V → Calls Tryz.prog 59 #[.pointer (some ⟨g, 0, none⟩), .int .i64 (i : Int)] W5 fun e w' => ∃ (x : Vl) (k : Int), e = .returned (.tuple #[x.v, .int .i64 k]) ∧ P x.cn k ∧ x.At w' ∧ x.Few ∧ Off [vm] W5 w') :
    Calls Tryz.prog 30 #[.pointer (some ⟨q, 0, none⟩), .agg #[.slice A tbs.length kc], .int .i64 (i : Int)] W (Evo P W) := by
  obtain ⟨W1, hW1⟩ : ∃ w, w = (W.alloc (.cells #[.slice A tbs.length kc] 24)).alloc (.cells #[.int .i64 0, .bool false, .bool false, .slice none 0 0, .slice none 0 0, .int .i64 0] 30) := ⟨_, rfl⟩
  have hb1 : Below W.heap.size W W1 := by rw [hW1]; exact bl_al (bl_al (.refl _ _) _) _
  have hsz : W1.heap.size = W.heap.size + 1 + 1 := by rw [hW1]; simp
  have X1 : Bk W.heap.size #[.slice A tbs.length kc] 24 W1 := by rw [hW1]; exact (Bk.new _ _ W).al _
  have X2 : Bk (W.heap.size + 1) zV 30 W1 := by rw [hW1]; exact Bk.new1 _ _ W _
  have hND := node_t (h.next hb1) hNt i hi
  unfold nv at hND
  have hTa := fun (w : World) (hb : Below W1.heap.size W1 w) => tablesOf_v A kc tbs w ((hT.next hb1).next hb) nT sT
  have hst := fun (w3 : World) (m N : Nat) (hb : Below W1.heap.size W1 w3) (hm : Tm w3 m N tbs) => (show Wk [w3.heap.size] B w0 ((w3.alloc (.map #[] 0)).alloc (.cells #[.pointer (some ⟨q, 0, none⟩), .map (some m), .map (some w3.heap.size)] 120)) q (w3.heap.size + 1) m w3.heap.size N 0 Nt so fu ty ns tbs V from
    { tt := (h.next hb1).turn (bl_trans hb (bl_al (bl_al (.refl _ _) _) _)) (by intro b hm; simp at hm; subst hm; exact ⟨.inr hb.size, by simp; omega⟩)
      c0 := by have := Bk.new1 #[.pointer (some ⟨q, 0, none⟩), .map (some m), .map (some w3.heap.size)] 120 w3 (.map #[] 0); exact this.cell rfl
      c1 := by have := Bk.new1 #[.pointer (some ⟨q, 0, none⟩), .map (some m), .map (some w3.heap.size)] 120 w3 (.map #[] 0); exact this.cell rfl
      c2 := by have := Bk.new1 #[.pointer (some ⟨q, 0, none⟩), .map (some m), .map (some w3.heap.size)] 120 w3 (.map #[] 0); exact this.cell rfl
      gX := by simp
      tmm := hm.next (bl_al (bl_al (.refl _ _) _) _)
      tX := by have := hm.lt; simp; omega
      at_ := fun t ht => ⟨((hT.next hb1).2 t ht).off (Off.of_below (bl_trans hb (bl_al (bl_al (.refl _ _) _) _)) []) (Lks.of_below (bl_trans hb (bl_al (bl_al (.refl _ _) _) _))) (by simp) (by intro b hm; simp at hm; subst hm; exact .inr hb.size), fT t ht⟩
      me := (Mo.made w3 ns.length V).next (bl_al (.refl _ _) _)
      vX := by simp
      vB := Nat.le_trans h.base (Nat.le_trans hb1.size hb.size) })
  have hVal2 := fun (w3 : World) (m N : Nat) (hb : Below W1.heap.size W1 w3) (hm : Tm w3 m N tbs) => hVal (w3.heap.size + 1) m w3.heap.size N _ (hst w3 m N hb hm)
  have hO := fun (v : Vl) (w : World) (h : v.At w) (f : v.Few) => own_v v w h f
  have hX1 := fun (w : World) (hb : Below W1.heap.size W1 w) => (X1.next hb).cell (j := 0) rfl
  have hend := fun (w : World) (u : Vl) (k : Int) (hb : Below W1.heap.size W1 w) (hu : P u.cn k) (aU : u.At w) (fU : u.Few) => (show Bk (W.heap.size + 1) zV 30 w ∧ ∀ F, F = set6 w (W.heap.size + 1) (.int .i64 u.so) (.bool u.bo) (.bool u.p.s) (.slice u.p.A u.p.xs.length u.p.a) (.slice u.p.B u.p.ys.length u.p.b) (.int .i64 u.el) → C6 (W.heap.size + 1) (.int .i64 u.so) (.bool u.bo) (.bool u.p.s) (.slice u.p.A u.p.xs.length u.p.a) (.slice u.p.B u.p.ys.length u.p.b) (.int .i64 u.el) F ∧ Evo P W (.returned (.tuple #[.agg #[.int .i64 u.so, .bool u.bo, .bool u.p.s, .slice u.p.A u.p.xs.length u.p.a, .slice u.p.B u.p.ys.length u.p.b, .int .i64 u.el], .int .i64 k])) F from by
    refine ⟨X2.next hb, fun F hF => ?_⟩
    obtain ⟨e1, e2, e3, _⟩ := end6 (bl_trans hb1 hb) (by omega) (X2.next hb) hF
    exact ⟨e1, u, k, rfl, hu, aU.lk e2, fU, e3⟩)
  unfold Vl.v at hVal2 hO
  have hmm := @run_makeMap Tryz.prog
  have hbd := hide (fun (w2 : World) (o : Obj) (hb : Below W1.heap.size W1 w2) => (bl_trans hb (bl_al (.refl _ _) o) : Below W1.heap.size W1 (w2.alloc o)))
  have hb5 := hide (fun (w3 w6 : World) (o p : Obj) (hb : Below W1.heap.size W1 w3) (hO : Off [w3.heap.size] ((w3.alloc o).alloc p) w6) => (show Below W1.heap.size W1 w6 from (bl_trans hb (bl_al (bl_al (.refl _ _) _) _)).trans (hO.below (by have := hb.size; simp; omega) (by intro b hm; simp at hm; subst hm; exact hb.size))))
  replace hND := hide hND; replace hTa := hide hTa; replace hVal2 := hide hVal2; replace hO := hide hO; replace hX1 := hide hX1; replace hend := hide hend; replace hW1 := hide hW1
  have hbr := hide (Below.refl W1.heap.size W1)
  clear h hT fT nT sT hVal hst hb1 hsz X1 X2
  generalize ns[i] = n at *
  generalize tbs.length = tn at *
  rw [hW1.out] at hND hTa hVal2 hX1 hend hbd hb5 hbr
  go_enter Tryz.func30, Tryz.ntmps30
  go_wp2_with (first
    | (go_at_call 58; (with_reducible refine hND.out.mono ?_); rintro e w2 ⟨An, ka, Bn, kb, Cn, ke, rfl, -, -, -, hb2⟩; have hb3 := hide (hbd.out w2 (.cells #[.int .i64 n.op, .string n.nm, .bool n.ng, .slice An n.nu.length ka, .slice Bn n.de.length kb, .slice Cn n.ar.length ke, .int .i64 n.so] 115) hb2); have c0 := hX1.out _ hb3.out; clear hb2)
    | (go_at_call 51; (with_reducible refine (hTa.out _ hb3.out).mono ?_); rintro e w3 ⟨m, N, rfl, -, -, hm, hb4⟩; have hb5' := hide (bl_trans hb3.out hb4); have hV3 := hide (hVal2.out w3 m N hb5'.out hm); clear hm hb4)
    | (go_at_call 59; (with_reducible refine hV3.out.mono ?_); rintro e w6 ⟨x, k, rfl, hP, aX, fX, hOf⟩; have hb6 := hb5.out w3 w6 _ _ hb5'.out hOf; have hb7 := hide (hbd.out w6 (.cells #[.int .i64 x.so, .bool x.bo, .bool x.p.s, .slice x.p.A x.p.xs.length x.p.a, .slice x.p.B x.p.ys.length x.p.b, .int .i64 x.el] 30) hb6); have hO7 := hide (hO.out x (w6.alloc (.cells #[.int .i64 x.so, .bool x.bo, .bool x.p.s, .slice x.p.A x.p.xs.length x.p.a, .slice x.p.B x.p.ys.length x.p.b, .int .i64 x.el] 30)) (aX.next (bl_al (.refl _ _) _)) fX); replace hP := hide hP; clear aX fX hOf hb6)
    | (go_at_call 37; (with_reducible refine hO7.out.mono ?_); rintro e w8 ⟨u, rfl, u1, u2, u3, hb8⟩; obtain ⟨hz, he⟩ := hend.out w8 u k (bl_trans hb7.out hb8) (by rw [u1]; exact hP.out) u2 u3; obtain ⟨z0, z1, z2, z3, z4, z5⟩ : C6 (W.heap.size + 1) _ _ _ _ _ _ w8 := C6.of hz; obtain ⟨f0, f1, f2, f3, f4, f5⟩ := free6 hz; replace he := hide he; clear hz u1 u2 u3 hb8; generalize u.p.xs.length = j1 at *; generalize u.p.ys.length = j2 at *))
  obtain ⟨F, hF⟩ : ∃ F, F = set6 w8 (W.heap.size + 1) (.int .i64 u.so) (.bool u.bo) (.bool u.p.s) (.slice u.p.A j1 u.p.a) (.slice u.p.B j2 u.p.b) (.int .i64 u.el) := ⟨_, rfl⟩
  clear z0 z1 z2 z3 z4 z5
  obtain ⟨⟨z0, z1, z2, z3, z4, z5⟩, e1⟩ := he.out F hF
  unfold set6 at hF
  rw [← hF]
  exact bodyPost_ret (v := .tuple #[.agg #[.int .i64 u.so, .bool u.bo, .bool u.p.s, .slice u.p.A j1 u.p.a, .slice u.p.B j2 u.p.b, .int .i64 u.el], .int .i64 k]) (by simp [results, Tryz.results30, go_sem, z0, z1, z2, z3, z4, z5]) rfl e1
end
end
section
open Go.ChangeShapes Go.RowKit
section
variable {B : Nat} {w0 W : World} {q Nt : Nat} {so fu : List (ByteArray × Nat)} {ty : List Fn} {ns : List Nd} {tbs : List Tr} {V : Nat → Option CV} {wt : Nat → Nat}
theorem eval_any (h : Tt [] B w0 W q Nt so fu ty ns) (hNt : Nt ≤ 10000) (A : Option Addr) (kc : Nat) {Z : List Nat} (hT : Ts Z W A tbs) (fT : ∀ t ∈ tbs, t.Few) (nT : tbs.length ≤ 100000) (sT : ∀ t ∈ tbs, t.nm.size ≤ maxLen) (hE : Ev ns tbs V wt) (i : Nat) (c : CV) (hc : V i = some c) (hw : wt i ≤ 1000) :
    Calls Tryz.prog 30 #[.pointer (some ⟨q, 0, none⟩), .agg #[.slice A tbs.length kc], .int .i64 (i : Int)] W (Evo (fun c' k => c' = c ∧ k = 0) W) :=
  eval_gen h (by omega) A kc hT fT nT sT V i (hE.in_ i c hc) _ fun g tm vm N0 W5 hk => (value_any hE (by omega) (i + 1) i (by omega) c hc [vm] W5 0 hk (by omega)).mono fun e w' ⟨u, N', e1, e2, e3, e4, _, _, e5⟩ => ⟨u, 0, e1, ⟨e2, rfl⟩, e3, e4, e5⟩
theorem value_none {X : List Nat} {g tm vm N0 N : Nat} (hW : Wk X B w0 W q g tm vm N0 N Nt so fu ty ns tbs (fun _ => none)) (hNt : Nt ≤ 100000) (i : Nat) (hi : i < ns.length) (h12 : ns[i].op = 12) (h0 : ns[i].ar = []) (hno : findT tbs ns[i].nm.data.toList = none) :
    Calls Tryz.prog 59 #[.pointer (some ⟨g, 0, none⟩), .int .i64 (i : Int)] W fun e w' => e = .returned (.tuple #[zVl.v, .int .i64 5]) ∧ Below W.heap.size W w' := by
  have hlen := hW.tt.len
  have hz0 : Below W.heap.size W (W.alloc (.cells #[.int .i64 0, .bool false, .bool false, .slice none 0 0, .slice none 0 0, .int .i64 0] 30)) := bl_al (.refl _ _) _
  have hb2 : Below W.heap.size W ((W.alloc (.cells #[.int .i64 0, .bool false, .bool false, .slice none 0 0, .slice none 0 0, .int .i64 0] 30)).alloc (.cells #[.int .i64 0, .bool false, .bool false, .slice none 0 0, .slice none 0 0, .int .i64 0] 30)) := bl_al hz0 _
  have g0 := cell_next hb2 hW.c0
  have g2 := cell_next hz0 hW.c2
  rcases (hW.me.next hz0).look i hi (by omega) with ⟨v, _, _, _, hv⟩ | hlk
  · cases hv
  have hND := node_t (hW.tt.next hb2) hNt i hi
  have hfit := hW.tt.fit i hi
  have hnm := hfit.nm
  have hM := fun (W1 : World) (hb : Below W.heap.size W W1) (An Bn Cn : Option Addr) (n1 n2 n3 ka kb ke : Nat) (ng : Bool) (so : Int) (C : Option Addr) (n c : Nat) => made_none (so := so) (ng := ng) (An := An) (Bn := Bn) (Cn := Cn) (n1 := n1) (n2 := n2) (n3 := n3) (ka := ka) (kb := kb) (ke := ke) (cell_next hb hW.c1) (hW.tmm.next hb) (by have := hnm; unfold maxLen; omega) hno C n c
  have hmk : ∀ W : World, (Instr.makeSlice 25 (.int .i64 0) (.int .i64 0)).run Tryz.prog W = .ok (.slice (some ⟨W.heap.size, 0, none⟩) 0 0) (W.alloc (rV.mz 0)) := fun W => rV_ok.make 0 (by decide) W
  have hst := fun (w : World) (hb : Below ((W.alloc (.cells #[.int .i64 0, .bool false, .bool false, .slice none 0 0, .slice none 0 0, .int .i64 0] 30)).alloc (.cells #[.int .i64 0, .bool false, .bool false, .slice none 0 0, .slice none 0 0, .int .i64 0] 30)).heap.size ((W.alloc (.cells #[.int .i64 0, .bool false, .bool false, .slice none 0 0, .slice none 0 0, .int .i64 0] 30)).alloc (.cells #[.int .i64 0, .bool false, .bool false, .slice none 0 0, .slice none 0 0, .int .i64 0] 30)) w) => (show Bk W.heap.size zV 30 w ∧ Below W.heap.size W w from ⟨((Bk.new _ _ W).al _).next hb, bl_trans hb2 hb⟩)
  have hi2 : (i : Int) < (ns.length : Int) := by omega
  rw [h12, h0] at hND
  generalize ns[i].nm = nm at *
  generalize ns[i].ng = ng at *
  generalize ns[i].so = sx at *
  generalize ns[i].nu = nu at *
  generalize ns[i].de = de at *
  unfold nv at hND
  unfold zVl Vl.v at *
  dsimp only at hlk hM
  simp only [List.length_nil] at hlk hM hND
  replace hND := hide hND; replace hM := hide hM; replace hst := hide hst
  clear hW hz0 hb2 hfit hnm hno
  go_enter Tryz.func59, Tryz.ntmps59
  go_wp2_with (go_at_call 58; (with_reducible refine hND.out.mono ?_); rintro e w2 ⟨An, ka, Bn, kb, Cn, ke, rfl, -, -, -, hb⟩; have hb4 := bl_trans hb (bl_al (bl_al (.refl _ _) (.cells #[.int .i64 12, .string nm, .bool ng, .slice An nu.length ka, .slice Bn de.length kb, .slice Cn 0 ke, .int .i64 sx] 115)) (rV.mz 0)); obtain ⟨hz, hbw⟩ := hst.out _ hb4; replace hb4 := hide hb4; have hM2 := hide (hM.out _ hbw An Bn Cn nu.length de.length 0 ka kb ke ng sx (some ⟨w2.heap.size + 1, 0, none⟩) 0 0); obtain ⟨p0, p1, p2, p3, p4, p5, p6⟩ := cells7 ((Bk.new #[.int .i64 12, .string nm, .bool ng, .slice An nu.length ka, .slice Bn de.length kb, .slice Cn 0 ke, .int .i64 sx] 115 w2).al (rV.mz 0)); clear hb hz hbw hND hM; generalize nu.length = n1 at *; generalize de.length = n2 at *)
  go_loop [10, 44] (fun v i => v = .slice (some ⟨w2.heap.size + 1, 0, none⟩) 0 0 ∧ i = .int .i64 0) (fun _ i => 0)
  case atStart => exact ⟨rfl, rfl⟩
  case round =>
    obtain ⟨rfl, rfl⟩ := hrel
    go_wp2_with (go_at_call 84; (with_reducible refine hM2.out.mono ?_); rintro e w4 ⟨rfl, hb5⟩; obtain ⟨hz, hbw⟩ := hst.out _ (bl_trans (bl_trans hb4.out hb5) (bl_al (.refl _ _) (.cells #[.int .i64 0, .bool false, .bool false, .slice none 0 0, .slice none 0 0, .int .i64 0] 30))); obtain ⟨z0, z1, z2, z3, z4, z5⟩ : C6 W.heap.size _ _ _ _ _ _ (w4.alloc (.cells #[.int .i64 0, .bool false, .bool false, .slice none 0 0, .slice none 0 0, .int .i64 0] 30)) := C6.of hz; obtain ⟨f0, f1, f2, f3, f4, f5⟩ := free6 hz; replace hz := hide hz; replace hbw := hide hbw; clear hb5)
    obtain ⟨F, hF⟩ : ∃ F, F = set6 (w4.alloc (.cells #[.int .i64 0, .bool false, .bool false, .slice none 0 0, .slice none 0 0, .int .i64 0] 30)) W.heap.size (.int .i64 0) (.bool false) (.bool false) (.slice none 0 0) (.slice none 0 0) (.int .i64 0) := ⟨_, rfl⟩
    clear z0 z1 z2 z3 z4 z5
    obtain ⟨⟨z0, z1, z2, z3, z4, z5⟩, _, e3, _⟩ := end6 hbw.out (Nat.le_refl _) hz.out hF
    unfold set6 at hF
    rw [← hF]
    exact bodyPost_ret (v := .tuple #[.agg #[.int .i64 0, .bool false, .bool false, .slice none 0 0, .slice none 0 0, .int .i64 0], .int .i64 5]) (by simp [results, Tryz.results59, go_sem, z0, z1, z2, z3, z4, z5]) rfl ⟨rfl, e3⟩
theorem eval_none (h : Tt [] B w0 W q Nt so fu ty ns) (hNt : Nt ≤ 100000) (A : Option Addr) (kc : Nat) {Z : List Nat} (hT : Ts Z W A tbs) (fT : ∀ t ∈ tbs, t.Few) (nT : tbs.length ≤ 100000) (sT : ∀ t ∈ tbs, t.nm.size ≤ maxLen) (i : Nat) (hi : i < ns.length) (h12 : ns[i].op = 12) (h0 : ns[i].ar = []) (hno : findT tbs ns[i].nm.data.toList = none) :
    Calls Tryz.prog 30 #[.pointer (some ⟨q, 0, none⟩), .agg #[.slice A tbs.length kc], .int .i64 (i : Int)] W (Evo (fun _ k => k = 5) W) :=
  eval_gen h hNt A kc hT fT nT sT (fun _ => none) i hi _ fun g tm vm N0 W5 hk => (value_none hk hNt i hi h12 h0 hno).mono fun e w' ⟨e1, e2⟩ => ⟨zVl, 5, e1, rfl, zVl_at _, zVl_few, Off.of_below e2 [vm]⟩
theorem eval_no (h : Tt [] B w0 W q Nt so fu ty ns) (hNt : Nt ≤ 100000) (A : Option Addr) (n kc : Nat) (x : Int) (hx : hasT ns.length x = false) :
    Calls Tryz.prog 30 #[.pointer (some ⟨q, 0, none⟩), .agg #[.slice A n kc], .int .i64 x] W fun e w' => e = .returned (.tuple #[zVl.v, .int .i64 1]) ∧ Below W.heap.size W w' := by
  have hb1 : Below W.heap.size W ((W.alloc (.cells #[.slice A n kc] 24)).alloc (.cells #[.int .i64 0, .bool false, .bool false, .slice none 0 0, .slice none 0 0, .int .i64 0] 30)) := bl_al (bl_al (.refl _ _) _) _
  have hND := node_no (h.next hb1) hNt x hx
  have hst := fun (w : World) (hb : Below ((W.alloc (.cells #[.slice A n kc] 24)).alloc (.cells #[.int .i64 0, .bool false, .bool false, .slice none 0 0, .slice none 0 0, .int .i64 0] 30)).heap.size ((W.alloc (.cells #[.slice A n kc] 24)).alloc (.cells #[.int .i64 0, .bool false, .bool false, .slice none 0 0, .slice none 0 0, .int .i64 0] 30)) w) => (show Bk (W.heap.size + 1) zV 30 w ∧ Below W.heap.size W w from ⟨(Bk.new1 _ _ W _).next hb, bl_trans hb1 hb⟩)
  replace hND := hide hND; replace hst := hide hst
  clear h hx hb1
  unfold zVl Vl.v
  dsimp only
  simp only [List.length_nil]
  go_enter Tryz.func30, Tryz.ntmps30
  go_wp2_with (go_at_call 58; (with_reducible refine hND.out.mono ?_); rintro e w2 ⟨rfl, hb⟩; obtain ⟨hz, hbw⟩ := hst.out _ (bl_trans hb (bl_al (.refl _ _) (.cells #[.int .i64 0, .string ⟨#[]⟩, .bool false, .slice none 0 0, .slice none 0 0, .slice none 0 0, .int .i64 0] 115))); obtain ⟨z0, z1, z2, z3, z4, z5⟩ : C6 (W.heap.size + 1) _ _ _ _ _ _ (w2.alloc (.cells #[.int .i64 0, .string ⟨#[]⟩, .bool false, .slice none 0 0, .slice none 0 0, .slice none 0 0, .int .i64 0] 115)) := C6.of hz; obtain ⟨f0, f1, f2, f3, f4, f5⟩ := free6 hz; replace hz := hide hz; replace hbw := hide hbw; clear hb)
  obtain ⟨F, hF⟩ : ∃ F, F = set6 (w2.alloc (.cells #[.int .i64 0, .string ⟨#[]⟩, .bool false, .slice none 0 0, .slice none 0 0, .slice none 0 0, .int .i64 0] 115)) (W.heap.size + 1) (.int .i64 0) (.bool false) (.bool false) (.slice none 0 0) (.slice none 0 0) (.int .i64 0) := ⟨_, rfl⟩
  clear z0 z1 z2 z3 z4 z5
  obtain ⟨⟨z0, z1, z2, z3, z4, z5⟩, _, e3, _⟩ := end6 hbw.out (by omega) hz.out hF
  unfold set6 at hF
  rw [← hF]
  exact bodyPost_ret (v := .tuple #[.agg #[.int .i64 0, .bool false, .bool false, .slice none 0 0, .slice none 0 0, .int .i64 0], .int .i64 1]) (by simp [results, Tryz.results30, go_sem, z0, z1, z2, z3, z4, z5]) rfl ⟨rfl, e3⟩
end
end
end Nt
end Go.Proofs.YthabfakbdfaciaaGreat
