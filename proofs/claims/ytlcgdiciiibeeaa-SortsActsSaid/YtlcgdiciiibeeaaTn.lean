/-
  A stack is cut: the loop.
-/
import Derived.Test.YtlcgdiciiibeeaaTm
namespace Go.Proofs.Ytlcgdiciiibeeaa
open Go.ChangeShapes Go.RowKit
open Go.ChangeMaps Go.MapKept Go.WideMaps
namespace Nt
set_option maxRecDepth 100000
set_option linter.unusedSimpArgs false
set_option linter.unusedVariables false

/-- What stays of a list of names on so many levels. -/
def keepL (lv : Nat) (es : List (ByteArray × Nat)) : List (ByteArray × Nat) := (es.reverse.dropWhile (fun e => decide (lv < e.2))).reverse
theorem keepL_nil (lv : Nat) : keepL lv [] = [] := rfl
theorem keepL_drop {lv : Nat} {es : List (ByteArray × Nat)} {e : ByteArray × Nat} (h : lv < e.2) : keepL lv (es ++ [e]) = keepL lv es := by
  unfold keepL; simp [h]
theorem keepL_stop {lv : Nat} {es : List (ByteArray × Nat)} {e : ByteArray × Nat} (h : ¬ lv < e.2) : keepL lv (es ++ [e]) = es ++ [e] := by
  unfold keepL; simp [h]
theorem take_snoc {es : List (ByteArray × Nat)} {j : Nat} (h : j < es.length) : es.take (j + 1) = es.take j ++ [es[j]] := by
  rw [List.take_add_one, List.getElem?_eq_getElem h]; rfl
theorem ecs_get1 : ∀ (es : List (ByteArray × Nat)) (i : Nat) (hi : i < es.length), (ecs es)[i * 2 + 1]? = some (.int .i64 (es[i].2 : Int))
  | e :: es, 0, _ => rfl
  | e :: es, i + 1, hi => by
    have := ecs_get1 es i (by simpa using hi)
    have e0 : (i + 1) * 2 + 1 = i * 2 + 1 + 1 + 1 := by omega
    rw [e0]
    unfold ecs at this ⊢
    simpa using this

/-- A name is struck out of the map. -/
theorem Mp.cut {w : World} {b N : Nat} {es : List (ByteArray × Nat)} {e : ByteArray × Nat} (h : Mp w (some b) N (es ++ [e])) :
    ∃ w', (∀ ty, (Builtin.delete_ #[66, 9] ty #[.map (some b), .string e.1]).run Try.prog w = .ok (.tuple #[]) w') ∧ Mp w' (some b) N es ∧ w.grownBy w' (some b) := by
  rcases h with ⟨h, _⟩ | ⟨b', D, h, hown, hn⟩
  · cases h
  · cases h
    have hkey : keyOf Try.prog 9 (.string e.1) = some (kl e.1) := keyOf_string_mk Try.underlying9 (hn.small e (by simp))
    obtain ⟨w', h1, h2, h3⟩ := hown.drop lawS Try.underlying66 hkey 0
    exact ⟨w', fun ty => h1, .inr ⟨b, _, rfl, h2, hn.pop⟩, h3.grown⟩

/-- What a stack's block is behind a cut. -/
def Cut (p o : Nat) (t : TypeId) (cur : Array Value) (v : Value) (m : Option Nat) (N : Nat) (es : List (ByteArray × Nat)) (w w' : World) : Prop :=
  ∃ v', Stk w' v' m N es ∧ Bk p (cur.setIfInBounds o v') t w' ∧ Off (p :: bks v m) w w' ∧ v'.ownBlock = v.ownBlock

theorem cut_end (p o : Nat) (t : TypeId) (cur : Array Value) (g c b N k : Nat) (es : List (ByteArray × Nat)) (w wr : World)
    (hB : Bk p cur t w) (h0 : cur[o]? = some (.slice (some ⟨g, 0, none⟩) es.length c)) (hS : Stk w (.slice (some ⟨g, 0, none⟩) es.length c) (some b) N es) (hpg : p ≠ g) (hpb : p ≠ b) (hgb : g ≠ b) (hk : k ≤ es.length) (hM : Mp wr (some b) N (es.take k)) (hO : Off [b] w wr) :
    ∃ w2, (∀ ty, (Builtin.clear_ #[65] ty #[.slice (some ⟨g, k * 2, none⟩) (es.length - k) (c - k)]).run Try.prog wr = .ok (.tuple #[]) w2) ∧ (c = k → ∀ ty, (Builtin.clear_ #[65] ty #[.slice (some ⟨g, 0, none⟩) 0 0]).run Try.prog wr = .ok (.tuple #[]) w2) ∧ w2.cell? ⟨p, o, none⟩ = some (.slice (some ⟨g, 0, none⟩) es.length c) ∧ w2.frozen? ⟨p, o, none⟩ = false ∧
      Cut p o t cur (.slice (some ⟨g, 0, none⟩) es.length c) (some b) N (es.take k) w (w2.setCell ⟨p, o, none⟩ (.slice (some ⟨g, 0, none⟩) k c)) := by
  have hz : ∀ w, (zeroValue 81).run Try.prog w = .ok (.agg #[.string ⟨#[]⟩, .int .i64 0]) w := fun w => by kernel_rfl
  rcases hS.row.2 with ⟨e, _⟩ | ⟨g', cap, cu, e, _, hg, hcap, hmax, hsz, htk⟩
  · cases e
  cases e
  have hgr : Bk g cu 81 wr := Bk.off (show Bk g cu _ w from hg) hO (by simpa using hgb)
  obtain ⟨w2, cu', hrun, hB2, hsz2, htk2, hO2⟩ := run_clear_row (P := Try.prog) wr 65 81 81 0 (.agg #[.string ⟨#[]⟩, .int .i64 0]) 2 Try.underlying65 hz rfl (by decide) (by intro v hv; simp [Value.cells] at hv; rcases hv with rfl | rfl <;> rfl) g k es.length (c - k) cu hgr hk (by rw [hsz]; exact Nat.mul_le_mul_right _ hcap)
  have hBp : Bk p cur t w2 := (hB.off hO (by simpa using hpb)).off hO2 (by simpa using hpg)
  have hO4 : Off [p] w2 (w2.setCell ⟨p, o, none⟩ (.slice (some ⟨g, 0, none⟩) k c)) := (Off.refl _ _).setCell _ _ (.inl (by simp))
  have hrun2 : c = k → ∀ ty, (Builtin.clear_ #[65] ty #[.slice (some ⟨g, 0, none⟩) 0 0]).run Try.prog wr = .ok (.tuple #[]) w2 := by
    intro hck ty
    have e0 : es.length - k = 0 := by omega
    rw [e0] at hrun
    simp [Builtin.clear_, run_underlying Try.underlying65] at hrun ⊢
    exact hrun
  refine ⟨w2, fun ty => hrun, hrun2, hBp.cell h0, hBp.free o, .slice (some ⟨g, 0, none⟩) k c, ⟨?_, ?_, ?_⟩, hBp.set _ rfl, ?_, rfl⟩
  · have hl : (es.take k).length = k := by rw [List.length_take]; omega
    rw [hl]
    refine Off.row ⟨?_, .inr ⟨g, c, cu', rfl, Nat.zero_le _, hB2, Nat.le_trans hk hcap, hmax, by rw [hsz2, hsz], ?_⟩⟩ hO4 (by intro x hx hm; cases hx; simp at hm; exact hpg hm.symm)
    · rw [ecs_length, hl]
    · rw [htk2]
      have e1 : cu.toList.take (k * 2) = (cu.toList.take (es.length * 2)).take (k * 2) := by
        rw [List.take_take]; congr 1; omega
      rw [e1, htk]
      have e2 : ∀ (l : List (ByteArray × Nat)) (k : Nat), (ecs l).take (k * 2) = ecs (l.take k) := by
        intro l
        induction l with
        | nil => intro k; simp [ecs]
        | cons x l ih =>
          intro k
          cases k with
          | zero => simp [ecs]
          | succ k =>
            have := ih k
            have e0 : (k + 1) * 2 = k * 2 + 1 + 1 := by omega
            rw [e0]
            unfold ecs at this ⊢
            simpa using this
      exact e2 es k
  · exact Off.map (Off.map hM hO2 (by intro x hx hm; cases hx; simp at hm; exact hgb hm.symm)) hO4 (by intro x hx hm; cases hx; simp at hm; exact hpb hm.symm)
  · rw [List.length_take]
    have := hS.le
    omega
  · have hb : ∀ x ∈ [b], x ∈ p :: bks (.slice (some ⟨g, 0, none⟩) es.length c) (some b) := by intro x hx; simp at hx; simp [bks, Value.ownBlock, hx]
    have hg' : ∀ x ∈ [g], x ∈ p :: bks (.slice (some ⟨g, 0, none⟩) es.length c) (some b) ∨ w.heap.size ≤ x := by intro x hx; simp at hx; exact .inl (by simp [bks, Value.ownBlock, hx])
    exact ((hO.more hb).trans hO2 hg').setCell _ _ (.inl (by simp))

set_option maxHeartbeats 2000000 in
set_option maxRecDepth 100000 in
theorem cut_some (p o : Nat) (t : TypeId) (cur : Array Value) (g c b N lv : Nat) (es : List (ByteArray × Nat)) (w : World)
    (hB : Bk p cur t w) (h0 : cur[o]? = some (.slice (some ⟨g, 0, none⟩) es.length c)) (h1 : cur[o + 1]? = some (.map (some b))) (hS : Stk w (.slice (some ⟨g, 0, none⟩) es.length c) (some b) N es) (hpg : p ≠ g) (hpb : p ≠ b) (hgb : g ≠ b) (hN : N ≤ 1000000) (hc : c ≤ maxLen) (hc2 : es.length ≤ c) :
    Calls Try.prog 40 #[.pointer (some ⟨p, o, none⟩), .int .i64 (lv : Int)] w fun e w' => e = .returned (.tuple #[]) ∧ Cut p o t cur (.slice (some ⟨g, 0, none⟩) es.length c) (some b) N (keepL lv es) w w' := by
  have hfin : ∀ (k : Nat) (wr : World), k ≤ es.length → keepL lv es = es.take k → Mp wr (some b) N (es.take k) → Off [b] w wr → _ := fun k wr hk he hM hO => cut_end p o t cur g c b N k es w wr hB h0 hS hpg hpb hgb hk hM hO
  have hrd : ∀ wr, Off [b] w wr → wr.cell? ⟨p, o, none⟩ = some (.slice (some ⟨g, 0, none⟩) es.length c) ∧ wr.cell? ⟨p, o + 1, none⟩ = some (.map (some b)) ∧ ∀ j (h : j < es.length), wr.cell? ⟨g, j * 2, none⟩ = some (.string es[j].1) ∧ wr.cell? ⟨g, j * 2 + 1, none⟩ = some (.int .i64 (es[j].2 : Int)) := by
    intro wr hO
    have hBp := hB.off hO (by simpa using hpb)
    have hrow := Off.row hS.row hO (by intro x hx hm; cases hx; simp at hm; exact hgb hm)
    refine ⟨hBp.cell h0, hBp.cell h1, fun j hj => ⟨?_, ?_⟩⟩
    · have := hrow.cells (g := g) rfl _ _ (ecs_get es j hj)
      rwa [Addr.add_lit, Nat.zero_add] at this
    · have := hrow.cells (g := g) rfl _ _ (ecs_get1 es j hj)
      rwa [Addr.add_lit, Nat.zero_add] at this
  have hM0 := hS.map
  have hn1 : es.length ≤ 1000000 := Nat.le_trans hS.le hN
  have hfin := hide hfin
  have hrd := hide hrd
  have hM0 := hide hM0
  obtain ⟨s0, s1, _⟩ := hrd.out w (.refl _ _)
  clear hB h0 h1 hS
  have hc3 : c ≤ 9223372036854775807 := by unfold maxLen at hc; omega
  clear hc
  go_enter Try.func40, Try.ntmps40
  go_wp2
  go_loopw [4] (fun i wr => ∃ k : Nat, k ≤ es.length ∧ i = .int .i64 (k : Int) ∧ keepL lv (es.take k) = keepL lv es ∧ Mp wr (some b) N (es.take k) ∧ Off [b] w wr) (fun i _ => (intOf i).toNat)
  case atStart => exact ⟨es.length, Nat.le_refl _, rfl, by rw [List.take_length], by rw [List.take_length]; exact hM0.out, .refl _ _⟩
  case round =>
    obtain ⟨k, hk, rfl, hkeep, hM, hO⟩ := hrel
    obtain ⟨e0, e1, hcs⟩ := hrd.out _ hO
    cases k with
    | zero =>
      obtain ⟨w2, hcl, _, d0, d1, hcut⟩ := hfin.out 0 _ (Nat.zero_le _) (by rw [← hkeep]; rfl) hM hO
      simp only [Nat.zero_mul, Nat.sub_zero] at hcl
      have hko : keepL lv es = es.take 0 := by rw [← hkeep]; rfl
      rw [← hko] at hcut
      have hcut := hide hcut
      clear hkeep hM hO hko hcs
      go_wp2
      go_end0
      exact ⟨rfl, hcut.out⟩
    | succ j =>
      have hj : j < es.length := hk
      obtain ⟨e2, e3⟩ := hcs j hj
      rw [take_snoc hj] at hkeep hM
      by_cases hlv : lv < es[j].2
      · rw [keepL_drop hlv] at hkeep
        obtain ⟨w2, hdel, hM2, hg2⟩ := Mp.cut (w := wr.drew) (e := es[j]) (Off.map (m := some b) hM (T := []) ((Off.refl _ _).drew) (by simp))
        have hO2 : Off [b] w w2 := (hO.drew).trans (T' := [b]) (Off.of_grown hg2 (fun x hx => by injection hx with hx; simp [hx])) (fun x hx => .inl hx)
        obtain ⟨f0, f1, hcs2⟩ := hrd.out _ hO2
        have f2 := (hcs2 j hj).1
        have hrel2 := hide (And.intro hkeep (And.intro hM2 hO2))
        clear hkeep hM hO hcs hM2 hO2 hg2 hcs2
        have hlv2 : decide ((lv : Int) < (es[j].2 : Int)) = true := decide_eq_true (by omega)
        generalize es[j].2 = el at *
        generalize es[j].1 = nm at *
        go_wp2
        refine wp_region_held_drew (S := (fun W => W.cell? ⟨p, o, none⟩ = some (.slice (some ⟨g, 0, none⟩) es.length c) ∧ W.cell? ⟨p, o + 1, none⟩ = some (.map (some b)) ∧ W.cell? ⟨g, j * 2, none⟩ = some (.string nm))) (by kernel_rfl) ?_ (fun hHeld => ?_)
        · (try dsimp only)
          exact ⟨e0, e1, e2⟩
        refine wpAnyH_take (i := 0) (v := ?vvx0) (by (simp only [List.getElem?_toArray, List.getElem?_cons_zero, List.getElem?_cons_succ]) <;> rfl) (by kernel_rfl) (by kernel_rfl) (by kernel_rfl) ?hqx0 (Or.inl ⟨by rfl, ?hyx0⟩) (by assumption) ?_
        case hqx0 => exact fun _ _ _ h => h
        case hyx0 => ((intro w hSw; (try dsimp only at hSw); go_simp) <;> (with_reducible rfl))
        (try simp only [Act.put, List.setIfInBounds_toArray, List.set_cons_zero, List.set_cons_succ])
        refine wpAnyH_take (i := 1) (v := ?vvx1) (by (simp only [List.getElem?_toArray, List.getElem?_cons_zero, List.getElem?_cons_succ]) <;> rfl) (by kernel_rfl) (by kernel_rfl) (by kernel_rfl) ?hqx1 (Or.inl ⟨by rfl, ?hyx1⟩) (by assumption) ?_
        case hqx1 => exact fun _ _ _ h => h
        case hyx1 => ((intro w hSw; (try dsimp only at hSw); go_simp) <;> (with_reducible rfl))
        (try simp only [Act.put, List.setIfInBounds_toArray, List.set_cons_zero, List.set_cons_succ])
        refine wpAnyH_take (i := 2) (v := ?vvx2) (by (simp only [List.getElem?_toArray, List.getElem?_cons_zero, List.getElem?_cons_succ]) <;> rfl) (by kernel_rfl) (by kernel_rfl) (by kernel_rfl) ?hqx2 (Or.inl ⟨by rfl, ?hyx2⟩) (by assumption) ?_
        case hqx2 => exact fun _ _ _ h => h
        case hyx2 => ((intro w hSw; (try dsimp only at hSw); go_simp) <;> (with_reducible rfl))
        (try simp only [Act.put, List.setIfInBounds_toArray, List.set_cons_zero, List.set_cons_succ])
        refine wpAnyH_take (i := 3) (v := ?vvx3) (by (simp only [List.getElem?_toArray, List.getElem?_cons_zero, List.getElem?_cons_succ]) <;> rfl) (by kernel_rfl) (by kernel_rfl) (by kernel_rfl) ?hqx3 (Or.inl ⟨by rfl, ?hyx3⟩) (by assumption) ?_
        case hqx3 => exact fun _ _ _ h => h
        case hyx3 => ((intro w hSw; (try dsimp only at hSw); go_simp) <;> (with_reducible rfl))
        (try simp only [Act.put, List.setIfInBounds_toArray, List.set_cons_zero, List.set_cons_succ])
        refine wpAnyH_take (i := 4) (v := ?vvx4) (by (simp only [List.getElem?_toArray, List.getElem?_cons_zero, List.getElem?_cons_succ]) <;> rfl) (by kernel_rfl) (by kernel_rfl) (by kernel_rfl) ?hqx4 (Or.inl ⟨by rfl, ?hyx4⟩) (by assumption) ?_
        case hqx4 => exact fun _ _ _ h => h
        case hyx4 => ((intro w hSw; (try dsimp only at hSw); go_simp) <;> (with_reducible rfl))
        (try simp only [Act.put, List.setIfInBounds_toArray, List.set_cons_zero, List.set_cons_succ])
        refine wpAnyH_take (i := 5) (v := ?vvx5) (by (simp only [List.getElem?_toArray, List.getElem?_cons_zero, List.getElem?_cons_succ]) <;> rfl) (by kernel_rfl) (by kernel_rfl) (by kernel_rfl) ?hqx5 (Or.inl ⟨by rfl, ?hyx5⟩) (by assumption) ?_
        case hqx5 => exact fun _ _ _ h => h
        case hyx5 => ((intro w hSw; (try dsimp only at hSw); go_simp) <;> (with_reducible rfl))
        (try simp only [Act.put, List.setIfInBounds_toArray, List.set_cons_zero, List.set_cons_succ])
        refine wpAnyH_take (i := 6) (v := ?vvx6) (by (simp only [List.getElem?_toArray, List.getElem?_cons_zero, List.getElem?_cons_succ]) <;> rfl) (by kernel_rfl) (by kernel_rfl) (by kernel_rfl) ?hqx6 (Or.inl ⟨by rfl, ?hyx6⟩) (by assumption) ?_
        case hqx6 => exact fun _ _ _ h => h
        case hyx6 => ((intro w hSw; (try dsimp only at hSw); go_simp) <;> (with_reducible rfl))
        (try simp only [Act.put, List.setIfInBounds_toArray, List.set_cons_zero, List.set_cons_succ])
        refine wpAnyH_take (i := 7) (v := ?vvx7) (by (simp only [List.getElem?_toArray, List.getElem?_cons_zero, List.getElem?_cons_succ]) <;> rfl) (by kernel_rfl) (by kernel_rfl) (by kernel_rfl) ?hqx7 (Or.inl ⟨by rfl, ?hyx7⟩) (by assumption) ?_
        case hqx7 => exact fun _ _ _ h => h
        case hyx7 => ((intro w hSw; (try dsimp only at hSw); go_simp) <;> (with_reducible rfl))
        (try simp only [Act.put, List.setIfInBounds_toArray, List.set_cons_zero, List.set_cons_succ])
        refine wpAnyH_take (i := 8) (v := ?vvx8) (by (simp only [List.getElem?_toArray, List.getElem?_cons_zero, List.getElem?_cons_succ]) <;> rfl) (by kernel_rfl) (by kernel_rfl) (by kernel_rfl) ?hqx8 (Or.inl ⟨by rfl, ?hyx8⟩) (by assumption) ?_
        case hqx8 => exact fun _ _ _ h => h
        case hyx8 => ((intro w hSw; (try dsimp only at hSw); go_simp) <;> (with_reducible rfl))
        (try simp only [Act.put, List.setIfInBounds_toArray, List.set_cons_zero, List.set_cons_succ])
        refine wpAnyH_take (i := 9) (v := ?vvx9) (by (simp only [List.getElem?_toArray, List.getElem?_cons_zero, List.getElem?_cons_succ]) <;> rfl) (by kernel_rfl) (by kernel_rfl) (by kernel_rfl) ?hqx9 (Or.inl ⟨by rfl, ?hyx9⟩) (by assumption) ?_
        case hqx9 => exact fun _ _ _ h => h
        case hyx9 => ((intro w hSw; (try dsimp only at hSw); go_simp) <;> (with_reducible rfl))
        (try simp only [Act.put, List.setIfInBounds_toArray, List.set_cons_zero, List.set_cons_succ])
        refine wpAnyH_take (i := 10) (v := ?vvx10) (by (simp only [List.getElem?_toArray, List.getElem?_cons_zero, List.getElem?_cons_succ]) <;> rfl) (by kernel_rfl) (by kernel_rfl) (by kernel_rfl) ?hqx10 (Or.inl ⟨by rfl, ?hyx10⟩) (by assumption) ?_
        case hqx10 => exact fun _ _ _ h => h
        case hyx10 => ((intro w hSw; (try dsimp only at hSw); go_simp) <;> (with_reducible rfl))
        (try simp only [Act.put, List.setIfInBounds_toArray, List.set_cons_zero, List.set_cons_succ])
        refine wpAnyH_take (i := 11) (v := ?vvx11) (by (simp only [List.getElem?_toArray, List.getElem?_cons_zero, List.getElem?_cons_succ]) <;> rfl) (by kernel_rfl) (by kernel_rfl) (by kernel_rfl) ?hqx11 (Or.inl ⟨by rfl, ?hyx11⟩) (by assumption) ?_
        case hqx11 => exact fun _ _ _ h => h
        case hyx11 => ((intro w hSw; (try dsimp only at hSw); go_simp) <;> (with_reducible rfl))
        (try simp only [Act.put, List.setIfInBounds_toArray, List.set_cons_zero, List.set_cons_succ])
        refine wpAnyH_ready (rs := [12]) (by kernel_rfl) (by simp) ?_
        refine AllReadyH.cons (by (simp only [List.getElem?_toArray, List.getElem?_cons_zero, List.getElem?_cons_succ]) <;> rfl) (fun K hK => ?_) AllReadyH.nil
        go_simp
        refine hK.out _ _ ?_ (fun hHeld => ?_)
        · (try dsimp only)
          exact ⟨f0, f1, f2⟩
        (try clear hK K)
        (try simp only [Act.put, List.setIfInBounds_toArray, List.set_cons_zero, List.set_cons_succ])
        refine wpAnyH_done (by kernel_rfl) ?_ _
        (try clear hHeld)
        (try go_wp2)
        go_roundw
        all_goals (try simp only [Array.getD_eq_getD_getElem?, List.getElem?_toArray, List.getElem?_cons_succ, List.getElem?_cons_zero, Option.getD_some])
        case rel => exact ⟨j, Nat.le_of_lt hj, rfl, hrel2.out.1, hrel2.out.2.1, hrel2.out.2.2⟩
        case measure => simp only [intOf]; omega
      · rw [keepL_stop hlv, ← take_snoc hj] at hkeep
        obtain ⟨w2, hcl, hcl2, d0, d1, hcut⟩ := hfin.out (j + 1) _ hk hkeep.symm (by rw [take_snoc hj]; exact hM) hO
        rw [hkeep] at hcut
        have hcut := hide hcut
        clear hkeep hM hO hcs
        have hlv2 : decide ((lv : Int) < (es[j].2 : Int)) = false := decide_eq_false (by omega)
        generalize es[j].2 = el at *
        by_cases hck : c = j + 1
        · have hcl2 := hcl2 hck
          clear hcl
          subst hck
          go_wp2
          go_end0
          exact ⟨rfl, hcut.out⟩
        · clear hcl2
          go_wp2
          go_end0
          exact ⟨rfl, hcut.out⟩

set_option maxHeartbeats 1000000 in
theorem cut_none (p o : Nat) (t : TypeId) (cur : Array Value) (N lv : Nat) (w : World)
    (hB : Bk p cur t w) (h0 : cur[o]? = some (.slice none 0 0)) (hS : Stk w (.slice none 0 0) none N []) :
    Calls Try.prog 40 #[.pointer (some ⟨p, o, none⟩), .int .i64 (lv : Int)] w fun e w' => e = .returned (.tuple #[]) ∧ Cut p o t cur (.slice none 0 0) none N (keepL lv []) w w' := by
  have hc : Cut p o t cur (.slice none 0 0) none N (keepL lv []) w (w.setCell ⟨p, o, none⟩ (.slice none 0 0)) := by
    rw [setCell_same hB h0]
    exact ⟨_, hS, by rw [set_same h0]; exact hB, .refl _ _, rfl⟩
  have hc := hide hc
  have hcl : ∀ ty, (Builtin.clear_ #[65] ty #[.slice none 0 0]).run Try.prog w = .ok (.tuple #[]) w := fun ty => by simp [Builtin.clear_, run_underlying Try.underlying65]
  have e0 : w.cell? ⟨p, o, none⟩ = some (.slice none 0 0) := hB.cell h0
  have e1 := hB.free o
  clear hB h0 hS
  go_enter Try.func40, Try.ntmps40
  go_wp2
  go_loopw [4] (fun i wr => i = .int .i64 0 ∧ wr = w) (fun i _ => (intOf i).toNat)
  case atStart => exact ⟨rfl, rfl⟩
  case round =>
    obtain ⟨rfl, rfl⟩ := hrel
    go_wp2
    go_end0
    exact ⟨rfl, hc.out⟩
end Nt
end Go.Proofs.Ytlcgdiciiibeeaa
