/- The lists of an event that came in take at most 2^47 bytes each. -/
import Derived.Test.YtdigpjfgjlhhjaaBBare

import Derived.Test.YtdigpjfgjlhhjaaShapesS

namespace Go.Proofs.Ytdigpjfgjlhhjaa

open Go.ChangeShapes Go.WideShapes Go.ChangeAt Go.RowKit

set_option linter.unusedVariables false

theorem bytes_int : Try.prog.bytesOf 3 = 8 := by kernel_rfl
theorem bytes_vote : Try.prog.bytesOf 34 = 72 := by kernel_rfl
theorem bytes_proof : Try.prog.bytesOf 36 = 144 := by kernel_rfl
theorem reach_eq : reachBytes = 140737488351232 := by decide
theorem vtS {v : voteSh.Val} (h : voteSh.Sz Try.prog reachBytes (.inl 34) v) : (toVt v).who.length ≤ 17592186044416 := by
  obtain ⟨fs, hu, h⟩ := h
  rw [Try.underlying34] at hu
  cases hu
  obtain ⟨_, _, _, _, ⟨e, he, hl, _⟩, _⟩ := h
  rw [Try.underlying32] at he
  cases he
  rw [bytes_int, reach_eq] at hl
  show List.length v.2.2.2.2.1 ≤ _
  have hl' : List.length v.2.2.2.2.1 * 8 ≤ 140737488351232 := hl
  omega
theorem pfS {v : proofSh.Val} (h : proofSh.Sz Try.prog reachBytes (.inl 36) v) : (toPf v).a.who.length ≤ 17592186044416 ∧ (toPf v).b.who.length ≤ 17592186044416 := by
  obtain ⟨fs, hu, h⟩ := h
  rw [Try.underlying36] at hu
  cases hu
  obtain ⟨h1, h2, _⟩ := h
  exact ⟨vtS h1, vtS h2⟩
theorem bkS {v : blockSh.Val} (h : blockSh.Sz Try.prog reachBytes (.inl 29) v) : bkD (toBk v) := by
  obtain ⟨fs, hu, h⟩ := h
  rw [Try.underlying29] at hu
  cases hu
  obtain ⟨_, _, _, ⟨e, he, hl, hv⟩, ⟨e2, he2, hl2, hp⟩, _⟩ := h
  rw [Try.underlying26] at he
  cases he
  rw [Try.underlying27] at he2
  cases he2
  rw [bytes_vote, reach_eq] at hl
  rw [bytes_proof, reach_eq] at hl2
  have hl' : List.length v.2.2.2.1 * 72 ≤ 140737488351232 := hl
  have hl2' : List.length v.2.2.2.2.1 * 144 ≤ 140737488351232 := hl2
  refine ⟨?_, ?_, fun x hx => ?_, fun x hx => ?_⟩
  · have k : List.length (α := voteSh.Val) v.2.2.2.1 ≤ 1954687338268 := by omega
    exact Nat.le_trans (Nat.le_of_eq (List.length_map (α := voteSh.Val) toVt)) k
  · have k : List.length (α := proofSh.Val) v.2.2.2.2.1 ≤ 977343669134 := by omega
    exact Nat.le_trans (Nat.le_of_eq (List.length_map (α := proofSh.Val) toPf)) k
  · obtain ⟨y, hy, rfl⟩ := List.mem_map.1 hx
    exact vtS (hv y hy)
  · obtain ⟨y, hy, rfl⟩ := List.mem_map.1 hx
    exact pfS (hp y hy)
theorem evS {v : eventSh.Val} (h : eventSh.Sz Try.prog reachBytes (.inl 38) v) : evD (toEv v) := by
  obtain ⟨fs, hu, h⟩ := h
  rw [Try.underlying38] at hu
  cases hu
  obtain ⟨_, _, h1, h2, h3, _⟩ := h
  exact ⟨bkS h1, vtS h2, pfS h3⟩
end Go.Proofs.Ytdigpjfgjlhhjaa
