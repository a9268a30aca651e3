/- A struct, or a part of one, stored into a variable; a struct as a function's result. -/
import Derived.Test.YtdigpjfgjlhhjaaWRd

import Derived.Laws.Rows

namespace Go.Proofs.Ytdigpjfgjlhhjaa

open Go.ChangeShapes Go.WideShapes Go.ChangeAt Go.RowKit

set_option linter.unusedVariables false

theorem infoPt : (Try.prog.info? 31).map (·.size) = some 2 := by kernel_rfl
theorem infoVt : (Try.prog.info? 34).map (·.size) = some 7 := by kernel_rfl
theorem infoPf : (Try.prog.info? 36).map (·.size) = some 14 := by kernel_rfl
theorem infoBk : (Try.prog.info? 29).map (·.size) = some 5 := by kernel_rfl
theorem Rd.apart {r h : Nat} {we w w' : World} {ab : Option Addr} {n c : Nat} {bs : List Int} {s s0 : St} (H : Rd r w ab n c bs s) (k : Apart h w w') (E : Rd r we ab n c bs s0) (hh : we.heap.size ≤ h) : Rd r w' ab n c bs s := by
  have hr := E.lt
  refine ⟨(k.block r H.lt (by omega)).trans H.obj, ⟨H.row.len, H.row.nil, fun i hi => ?_, H.row.cap⟩, H.b8, H.pos⟩
  obtain ⟨b, off, e, hlt, hc⟩ := H.row.cell i hi
  obtain ⟨h1, h2⟩ := hole_cell hc
  rw [hole_size] at hlt
  obtain ⟨b', off', e', hlt', _⟩ := E.row.cell i hi
  rw [e] at e'
  cases e'
  rw [hole_size] at hlt'
  refine ⟨b, off, e, by rw [hole_size]; exact Nat.lt_of_lt_of_le hlt k.size, ?_⟩
  unfold World.cell? at hc ⊢
  rw [hole_get _ _ _ h1] at hc ⊢
  rw [k.block b hlt (by omega)]
  exact hc
end Go.Proofs.Ytdigpjfgjlhhjaa
