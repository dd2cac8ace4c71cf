
/-
  limbs.Sub, nat.Sub.
-/
import Derived.Test.YtfdeiejphlaokaaGreatDoorCmp

import Derived.Test.YtfdeiejphlaokaaGreatDoorMath3

import Derived.Deep.RegionHeld3

namespace Go.Proofs.YtfdeiejphlaokaaGreatDoor

open Go.RowKit

namespace Nt

theorem trim_n (A : Option Addr) (n c : Nat) (xs : List Nat) (w : World) (hx : xs.length = n) (hs : Sl w A xs) (hl : n ≤ c) (hn : n ≤ 1000000) :
    Calls Tryz.prog 95 #[.slice A n c] w fun e w' => e = .returned (.slice A (trimz xs).length c) ∧ w = w' := by
  subst hx
  exact trim_any A c xs w hs hl hn
theorem Own.trimRes {w : World} {base g cap : Nat} {xs : List Nat} (h : Own w base g cap xs) : Res w (.slice (some ⟨g, 0, none⟩) (trimz xs).length cap) (trimz xs) :=
  ⟨_, _, rfl, Nat.le_trans (trimz_len_le xs) h.le, h.cap_le, h.sl.trim⟩

theorem Own.trim {w : World} {base g cap : Nat} {xs : List Nat} (h : Own w base g cap xs) : Own w base g cap (trimz xs) := by
  have := h.take (trimz xs).length
  rwa [trimz_prefix] at this

end Nt

end Go.Proofs.YtfdeiejphlaokaaGreatDoor
