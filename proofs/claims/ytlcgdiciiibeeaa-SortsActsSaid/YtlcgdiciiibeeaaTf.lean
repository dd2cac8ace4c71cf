/-
  A name is laid on a stack.
-/
import Derived.Maps.AppendAt
import Derived.Deep.RegionHeld3
import Derived.Test.YtlcgdiciiibeeaaShs
import Derived.Test.YtlcgdiciiibeeaaTe
namespace Go.Proofs.Ytlcgdiciiibeeaa
open Go.ChangeShapes Go.RowKit
open Go.ChangeMaps Go.MapKept Go.WideMaps
namespace Nt
set_option maxRecDepth 100000

theorem clone_any (s : ByteArray) (w : World) (hs : s.size ≤ 200) : Calls Try.prog 46 #[.string s] w fun e w' => e = .returned (.string s) ∧ Below w.heap.size w w' := by
  have h := Try.stringslite_Clone s w (by omega)
  clear hs
  go_enter Try.func46, Try.ntmps46
  go_wp2_with (go_at_call 50; refine h.mono ?_; rintro e w' ⟨rfl, hb⟩)
  go_ret
  exact ⟨rfl, by assumption⟩

theorem ecs_length (es : List (ByteArray × Nat)) : (ecs es).length = es.length * 2 := by
  induction es with
  | nil => rfl
  | cons e es ih => unfold ecs at *; simp [ih]; omega
theorem ecs_snoc (es : List (ByteArray × Nat)) (s : ByteArray) (l : Nat) : ecs (es ++ [(s, l)]) = ecs es ++ [.string s, .int .i64 (l : Int)] := by
  unfold ecs; simp

/-- An entry behind a list of names. -/
theorem app_entry (w : World) (v : Value) (es : List (ByteArray × Nat)) (hrow : w.ownsRow 0 81 2 v es.length (ecs es)) (s : ByteArray) (l : Nat) (hl : es.length ≤ 1000000) :
    ∃ v' w', (∀ ty, (Builtin.append_ #[65, 65] ty #[v, .slice (some ⟨w.heap.size, 0, none⟩) 1 1]).run Try.prog (w.alloc (.cells #[.string s, .int .i64 (l : Int)] 81)) = .ok v' w') ∧
      w'.ownsRow 0 81 2 v' (es.length + 1) (ecs (es ++ [(s, l)])) ∧ Off v.ownBlock.toList w w' ∧ (∀ b, v'.ownBlock = some b → v.ownBlock = some b ∨ w.heap.size ≤ b) := by
  obtain ⟨i, hinf, hz, h1, h8⟩ := info_parts (P := Try.prog) (e := 81) (z := .agg #[.string ⟨#[]⟩, .int .i64 0]) (size := 2) (bytes := 24) (by kernel_rfl)
  have hB : Bk w.heap.size #[.string s, .int .i64 (l : Int)] 81 (w.alloc (.cells #[.string s, .int .i64 (l : Int)] 81)) := Bk.new _ _ _
  have hcells : ∀ j u, ([.string s, .int .i64 (l : Int)] : List Value)[j]? = some u → (w.alloc (.cells #[.string s, .int .i64 (l : Int)] 81)).cell? ((⟨w.heap.size, 0, none⟩ : Addr).add j) = some u := by
    intro j u hu
    rw [Addr.add_lit, Nat.zero_add]
    refine hB.cell ?_
    rw [← Array.getElem?_toList]
    exact hu
  obtain ⟨v', w', hr, h2, h3, h4, h5⟩ := run_append_own_at (P := Try.prog) (w.alloc (.cells #[.string s, .int .i64 (l : Int)] 81)) 0 65 0 81 i (.agg #[.string ⟨#[]⟩, .int .i64 0]) 2 24 Try.underlying65 hinf hz h1 h8 rfl (by decide) v es.length (ecs es) (hrow.alloc _) ⟨w.heap.size, 0, none⟩ 1 1 [.string s, .int .i64 (l : Int)] rfl hcells
    (by intro u hu; simp at hu; rcases hu with rfl | rfl <;> rfl) (by unfold maxLen; omega) (by omega) (Nat.zero_le _)
  refine ⟨v', w', fun ty => hr, by rw [ecs_snoc]; exact h2, ?_, ?_⟩
  · exact ((Off.refl _ _).alloc _).trans (Off.of_grown (T := v.ownBlock.toList) h3 (fun k hk => .inl (by simp [hk]))) (fun b hb => .inl hb)
  · intro b hb
    rcases h5 with h5 | h5
    · exact .inl (h5 ▸ hb)
    · rw [h5] at hb
      have : (w.alloc (.cells #[.string s, .int .i64 (l : Int)] 81)).heap.size = w.heap.size + 1 := by simp
      injection hb with hb
      exact .inr (by omega)

/-- What a stack's block is behind a push. -/
def Pushed (p o : Nat) (t : TypeId) (cur : Array Value) (v : Value) (m : Option Nat) (N : Nat) (es : List (ByteArray × Nat)) (w w' : World) : Prop :=
  ∃ v' m', Stk w' v' m' N es ∧ Bk p ((cur.setIfInBounds o v').setIfInBounds (o + 1) (.map m')) t w' ∧ Off (p :: bks v m) w w' ∧ (∀ b ∈ bks v' m', b ∈ bks v m ∨ w.heap.size ≤ b)

/-- A map of names takes one more. -/
theorem Mp.upd {w : World} {b N : Nat} {es : List (ByteArray × Nat)} {D : DataW Unit} (hown : w.ownsMap Try.prog 9 (plainElem (H := Unit) Try.prog 3) b N D) (hn : Nm D es) (s : ByteArray) (hs : s.size ≤ maxLen) (hN : N ≤ 1000000) (hl : es.length ≤ N) (l : Nat) (hno : hasB es s = false) :
    ∃ w', (Instr.mapUpdate 66 (.map (some b)) (.string s) (.int .i64 (es.length : Int))).run Try.prog w = .ok () w' ∧ Mp w' (some b) (N + 1) (es ++ [(s, l)]) ∧ w.grownBy w' (some b) := by
  have hkey : keyOf Try.prog 9 (.string s) = some (kl s) := keyOf_string_mk Try.underlying9 hs
  have hwf : (Lit.int .i64 (es.length : Int)).wf = true := WalkArith.wf_i64 (by omega)
  obtain ⟨w', h1, h2, h3⟩ := hown.update lawS Try.underlying66 (by unfold maxLen; omega) hkey (plainElem_int Try.underlying3 hwf)
  exact ⟨w', h1, .inr ⟨b, _, rfl, h2, hn.push hown.isMap s l hno hs⟩, h3⟩
end Nt
end Go.Proofs.Ytlcgdiciiibeeaa
