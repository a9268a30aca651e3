/- Contract of psephoslaw10's count. -/
import Derived.Test.YtphahkjjmomjcaaLLCnt

import Derived.Test.YtphahkjjmomjcaaLLCnt2

namespace Go.Proofs.Ytphahkjjmomjcaa

open Go.ChangeShapes Go.WideShapes Go.ChangeAt Go.RowKit

set_option linter.unusedVariables false

theorem count_law (S : LS) (who : List Int) (F : Nat) (cap : Array Value) (f : Int → Int) (a : Option Addr) (n c : Nat) (s b : Int) (a1 : Option Addr) (c1 : Nat) (a2 : Option Addr) (c2 : Nat) (vs vh se sr te tr : Int) (a3 : Option Addr) (l3 c3 : Nat) (w : World)
    (hV : RowB w a1 n c1 S.bf) (hU : RowB w a2 n c2 S.nw) (hW : RowIn .i64 w a3 l3 c3 who) (hn : 0 < n ∧ n ≤ 4096) (hF : Enters F) (hC : ChainOf w F cap f) (he : I64s S.e) (hs : I64s s) (hvs : I64s vs) (hte : I64s te) :
    Calls Try.prog 33 #[.agg #[.slice a n c, .int .i64 s, .int .i64 b], .agg (lcells S.j S.e a1 n c1 a2 n c2), .agg (vcells vs vh se sr te tr a3 l3 c3), chv F cap] w fun x w' =>
      ∃ b1 d1 b2 d2, x = .returned (.tuple #[.agg (lcells (cntS n s f S ⟨vs, vh, se, sr, te, tr, who⟩).j (cntS n s f S ⟨vs, vh, se, sr, te, tr, who⟩).e b1 n d1 b2 n d2), .bool (cntB n s f S ⟨vs, vh, se, sr, te, tr, who⟩)]) ∧ RowB w' b1 n d1 (cntS n s f S ⟨vs, vh, se, sr, te, tr, who⟩).bf ∧ RowB w' b2 n d2 (cntS n s f S ⟨vs, vh, se, sr, te, tr, who⟩).nw ∧ ((b1 = a1 ∧ b2 = a2) ∨ ((∀ b off, b1 = some ⟨b, off, none⟩ → w.heap.size ≤ b) ∧ (∀ b off, b2 = some ⟨b, off, none⟩ → w.heap.size ≤ b))) ∧ Below w.heap.size w w' := by
  cases hb : cntB n s f S ⟨vs, vh, se, sr, te, tr, who⟩ with
  | false =>
    have e : cntS n s f S ⟨vs, vh, se, sr, te, tr, who⟩ = S := by
      unfold cntS
      rw [hb]
      rfl
    rw [e]
    refine (count_no S who F cap f a n c s b a1 c1 a2 c2 vs vh se sr te tr a3 l3 c3 w hW hF hC he hs hvs hte hb).mono ?_
    rintro x w' ⟨rfl, hbel⟩
    exact ⟨a1, c1, a2, c2, rfl, hV.below hbel, hU.below hbel, .inl ⟨rfl, rfl⟩, hbel⟩
  | true =>
    have e : (cntS n s f S ⟨vs, vh, se, sr, te, tr, who⟩).j = S.j ∧ (cntS n s f S ⟨vs, vh, se, sr, te, tr, who⟩).e = S.e := by
      unfold cntS
      rw [hb, if_pos rfl]
      split <;> exact ⟨rfl, rfl⟩
    refine (count_yes S who F cap f a n c s b a1 c1 a2 c2 vs vh se sr te tr a3 l3 c3 w hV hU hn hW hF hC he hs hvs hte hb).mono ?_
    rintro x w' ⟨b1, d1, b2, d2, rfl, r1, r2, n1, n2, hbel⟩
    rw [e.1, e.2]
    exact ⟨b1, d1, b2, d2, rfl, r1, r2, .inr ⟨n1, n2⟩, hbel⟩
end Go.Proofs.Ytphahkjjmomjcaa
