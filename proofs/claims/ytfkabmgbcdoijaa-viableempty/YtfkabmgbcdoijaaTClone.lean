/- Contract of slices.Clone of a row of numbers. -/
import Derived.Test.YtfkabmgbcdoijaaRows

import Derived.Test.YtfkabmgbcdoijaaRowLaws

import Derived.WalkKit

import Derived.ProofKit

namespace Go.Proofs.Ytfkabmgbcdoijaa

open Go.ChangeShapes Go.WideShapes Go.ChangeAt Go.RowKit

set_option linter.unusedVariables false

theorem info_u64 : (Try.prog.info? 29).map (fun i => (i.zero, i.size, i.bytes)) = some (some (.int .u64 0), 1, 8) := by kernel_rfl
theorem owns_no (w : World) (e : TypeId) (hb : w.heap.size ≤ w.heap.size) : (w.alloc (.cells #[] e)).ownsRow w.heap.size e 1 (.slice (some ⟨w.heap.size, 0, none⟩) 0 0) 0 [] :=
  ⟨rfl, .inr ⟨w.heap.size, 0, #[], rfl, hb, heap_alloc_new w _, Nat.le_refl _, by simp [maxLen], rfl, rfl⟩⟩
set_option maxRecDepth 100000 in
set_option maxHeartbeats 400000 in
theorem clone64_any (zs : List Int) (v : Value) (w : World) (ho : w.ownsRow 0 29 1 v zs.length (zs.map (Value.int .u64))) (hl : zs.length ≤ 1048576) :
    Calls Try.prog 22 #[v] w fun e w' => ∃ v', e = .returned v' ∧ w'.ownsRow w.heap.size 29 1 v' zs.length (zs.map (Value.int .u64)) ∧ Below w.heap.size w w' := by
  rcases ho.2 with ⟨rfl, h0⟩ | ⟨b, cap, cur, rfl, h1, h2, h3, h4, h5, h6⟩
  · have e0 : zs = [] := List.eq_nil_of_length_eq_zero h0
    subst e0
    clear ho h0
    have hEq : ∀ w : World, (binOp BinOp.eql 42 (Value.slice none 0 0) (Value.slice none 0 0)).run Try.prog w = .ok (.bool true) w := fun w => by kernel_rfl
    go_enter Try.func22, Try.ntmps22
    go_wp2
    go_ret
    exact ⟨_, rfl, World.ownsRow_nil _ _ _ _, Below.refl _ _⟩
  · obtain ⟨ao, c, e1, hR⟩ := RowIn.ofOwned ho
    cases e1
    have HR := hide (hR.alloc (.cells #[] 29))
    have HO := hide (owns_no w 29 (Nat.le_refl _))
    obtain ⟨i0, hi, hz0, hz1, hz2⟩ := info_parts info_u64
    generalize hn : zs.length = n at *
    have hEq : ∀ w : World, (binOp BinOp.eql 42 (Value.slice (some ⟨b, 0, none⟩) n cap) (Value.slice none 0 0)).run Try.prog w = .ok (.bool false) w := fun w => by kernel_rfl
    clear hR ho h1 h2 h3 h5 h6
    go_enter Try.func22, Try.ntmps22
    go_wp2_with (at_builtin; refine wpList_append_rows _ rfl (.tmp 5) (.tmp 6) 42 rfl w.heap.size 29 i0 .u64 (.int .u64 0) 8 Try.underlying42 hi hz0 hz1 hz2 rfl (.slice (some ⟨w.heap.size, 0, none⟩) 0 0) 0 [] rfl HO.out _ n _ zs rfl HR.out ?c1 ?c2 ?c3 ?_)
    case c1 => unfold maxLen; omega
    case c2 => omega
    case c3 => simp
    intro ao4 d4 w4 hown4 hgrow4
    have HB := hide (((Below.refl w.heap.size w).alloc (Nat.le_refl _) (.cells #[] 29)).grown hgrow4 (by simp) (fun k hk => by cases hk; exact Nat.le_refl _))
    have HW := hide hown4
    clear hgrow4 hown4 HO HR
    go_wp2
    go_ret
    exact ⟨_, rfl, HW.out, HB.out⟩
end Go.Proofs.Ytfkabmgbcdoijaa
