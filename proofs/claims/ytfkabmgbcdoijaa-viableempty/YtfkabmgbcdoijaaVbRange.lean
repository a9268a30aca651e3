/- A range over a map of bools, all of which are true. -/
import Derived.Test.YtfkabmgbcdoijaaVbAwake

namespace Go.Proofs.Ytfkabmgbcdoijaa

open Go Go.ChangeShapes Go.WideShapes Go.ChangeAt Go.RowKit Go.Maps

set_option linter.unusedVariables false

theorem wpList_next_B {ops : Array Oper} {Q : Exit → Act → World → Prop} {rest : List Oper} {o : Oper} {a : Act} (w : World) (hg : o.guard = none) (it : Operand) (hop : o.op = Op.next it false)
    (b r n : Nat) (D : DataW Unit) (left : Lit → Bool) (cnt : Nat) (hit : a.eval it = .pointer (some ⟨r, 0, none⟩)) (h : w.ranges Try.prog 29 (plainElem Try.prog 4) b r n D left cnt)
    (hT : ∀ kl, left kl = true → D.atKey kl (.lit (.bool false)) = .lit (.bool true))
    (hDone : cnt = 0 → wpList Try.prog ops Q rest (a.put o.dst (.tuple #[.bool false])) w)
    (hMore : ∀ (x : Int) (w' : World) (cnt' : Nat), U64 x → left (.int .u64 x) = true → w'.ranges Try.prog 29 (plainElem Try.prog 4) b r n D (fun z => left z && !z.sameKey (.int .u64 x)) cnt' → cnt' < cnt →
      w.grownBy w' (some r) → w'.heap.size = w.heap.size → (Instr.entry (.pointer (some ⟨r, 0, none⟩))).run Try.prog w' = .ok (.tuple #[.int .u64 x, .bool true]) w' → wpList Try.prog ops Q rest (a.put o.dst (.tuple #[.bool true, .int .u64 x, .bool true])) w') :
    wpList Try.prog ops Q (o :: rest) a w :=
  wpList_next_ranges w hg it hop 29 keyU (plainElem Try.prog 4) (Value.int .u64) Value.bool (fun key kl hkey => by obtain ⟨x, rfl, _⟩ := Maps.keyOf_int_inv Try.underlying29 hkey; exact ⟨x, rfl⟩) (fun v y hv => by obtain ⟨c, rfl, _⟩ := plainElem_bool_inv Try.underlying4 hv; exact ⟨c, rfl⟩)
    b r n D left cnt hit h (fun h0 _ => hDone h0) (fun x c kl y w' cnt' hkey hlk hv hat hrg hlt hgr hsz hen => by
      obtain ⟨x', ex, rfl, hwx⟩ := Maps.keyOf_int_inv Try.underlying29 hkey
      cases ex
      obtain ⟨c', ec, rfl⟩ := plainElem_bool_inv Try.underlying4 hv
      cases ec
      have h1 := hat (.lit (.bool false))
      rw [hT _ hlk] at h1
      have : c = true := by simpa using h1.symm
      subst this
      exact hMore x w' cnt' (by unfold U64; simpa [Lit.wf, IntKind.min, IntKind.max, IntKind.signed, IntKind.bits] using hwx) hlk hrg hlt hgr hsz hen)
end Go.Proofs.Ytfkabmgbcdoijaa
