/- Contract of psephoslaw10.Same, of equal states. -/
import Derived.Test.YtphahkjjmomjcaaLFun3

import Derived.Test.YtphahkjjmomjcaaJEq

namespace Go.Proofs.Ytphahkjjmomjcaa

open Go.ChangeShapes Go.WideShapes Go.ChangeAt Go.RowKit

set_option linter.unusedVariables false

theorem neq_js (j : JS) (w : World) : (binOp BinOp.neq 64 (.agg j.cells) (.agg j.cells)).run Try.prog w = .ok (.bool false) w := by
  have heq : ∀ (x0 x1 x2 x3 y0 y1 y2 y3 : Bool) (w : World), (Op.equalIn 9999 60 (.agg #[.bool x0, .bool x1, .bool x2, .bool x3]) (.agg #[.bool y0, .bool y1, .bool y2, .bool y3])).run Try.prog w = .ok (x0 == y0 && (x1 == y1 && (x2 == y2 && x3 == y3))) w := fun x0 x1 x2 x3 y0 y1 y2 y3 w => eq4 9997 x0 x1 x2 x3 y0 y1 y2 y3 w
  go_simp

set_option maxRecDepth 100000 in
set_option maxHeartbeats 4000000 in
theorem same_led (S : LS) (a1 : Option Addr) (l1 c1 : Nat) (a2 : Option Addr) (l2 c2 : Nat) (b1 : Option Addr) (d1 : Nat) (b2 : Option Addr) (d2 : Nat) (w : World)
    (hA : RowB w a1 l1 c1 S.bf) (hB : RowB w a2 l2 c2 S.nw) (hC : RowB w b1 l1 d1 S.bf) (hD : RowB w b2 l2 d2 S.nw) (h1 : 0 < l1) (h2 : 0 < l2) :
    Calls Try.prog 34 #[.agg (lcells S.j S.e a1 l1 c1 a2 l2 c2), .agg (lcells S.j S.e b1 l1 d1 b2 l2 d2)] w fun x w' => x = .returned (.bool true) ∧ Below w.heap.size w w' := by
  have HX := hide ((OAt.new w (lobj S.j S.e a1 l1 c1 a2 l2 c2)).alloc (lobj S.j S.e b1 l1 d1 b2 l2 d2))
  have HY := hide (OAt.new (w.alloc (lobj S.j S.e a1 l1 c1 a2 l2 c2)) (lobj S.j S.e b1 l1 d1 b2 l2 d2))
  have HN := hide ((((Below.refl _ w).alloc (Nat.le_refl _) (lobj S.j S.e a1 l1 c1 a2 l2 c2)).alloc (by simp) (lobj S.j S.e b1 l1 d1 b2 l2 d2)))
  simp only [World.size_alloc] at HY
  have hb1 := hA.cap
  have hb2 := hB.cap
  unfold maxLen at hb1 hb2
  obtain ⟨ba, oa, rfl, hla, hca⟩ := hA.spot h1
  obtain ⟨bc, oc, rfl, hlc, hcc⟩ := hC.spot h1
  obtain ⟨bb, ob, rfl, hlb, hcb⟩ := hB.spot h2
  obtain ⟨bd, od, rfl, hld, hcd⟩ := hD.spot h2
  have HA := hide hA
  have HB := hide hB
  have HC := hide hC
  have HD := hide hD
  clear hA hB hC hD hca hcb hcc hcd
  go_enter Try.func34, Try.ntmps34
  go_upto_region 1 with fail
  generalize hW : (w.alloc (lobj S.j S.e (some ⟨ba, oa, none⟩) l1 c1 (some ⟨bb, ob, none⟩) l2 c2)).alloc (lobj S.j S.e (some ⟨bc, oc, none⟩) l1 d1 (some ⟨bd, od, none⟩) l2 d2) = W at HX HY HN
  clear hW
  have LX := hide (load_js HX.out)
  have LY := hide (load_js HY.out)
  have hx := HX.out.lc
  have hy := HY.out.lc
  have hneq := neq_js
  go_upto_region 3 with (first | refine wpList_load_at 64 (.tmp 7) rfl rfl _ rfl _ LX.out ?_ | refine wpList_load_at 64 (.tmp 9) rfl rfl _ rfl _ LY.out ?_)
  clear hx hy hneq LX LY
  have hin : Hid (∀ wr, Below W.heap.size W wr → Below w.heap.size w wr) := fun wr h => HN.out.trans (h.mono HN.out.size)
  have hx := HX.out.lc
  go_wp2
  go_loopw [40] (fun i wr => ∃ k : Nat, k ≤ l1 ∧ i = .int .i64 k ∧ Hid (Below W.heap.size W wr)) (fun i _ => l1 - (intOf i).toNat)
  case atStart => exact ⟨0, Nat.zero_le _, rfl, hide (Below.refl _ _)⟩
  case round =>
    clear hx
    obtain ⟨k, hk, rfl, hI⟩ := hrel
    have hx := (HX.out.below hI.out).lc
    have hy := (HY.out.below hI.out).lc
    by_cases hlt : k < l1
    · obtain ⟨b', o', e', _, hc⟩ := (HA.out.below (hin.out _ hI.out)).cell k hlt
      cases e'
      obtain ⟨b'', o'', e'', _, hd⟩ := (HC.out.below (hin.out _ hI.out)).cell k hlt
      cases e''
      obtain ⟨x, hxv⟩ : ∃ x, Hid (S.bf.getD k false = x) := ⟨_, rfl⟩
      rw [hxv.out] at hc hd
      go_wp2
      go_quiet (fail)
      all_goals
        have HI2 := hide (below_drewN hI.out nq)
        clear hI
        have hxx : (x != x) = false := by simp
        go_wp2
        go_roundw
        case rel => exact ⟨k + 1, by omega, by go_num, HI2⟩
        case measure => simp [intOf]; omega
    · have hkk : k = l1 := by omega
      subst hkk
      have HI3 := hide hI.out
      clear hI hy
      go_wp2
      go_loopw [58] (fun i wr => ∃ k : Nat, k ≤ l2 ∧ i = .int .i64 k ∧ Hid (Below W.heap.size W wr)) (fun i _ => l2 - (intOf i).toNat)
      case atStart => exact ⟨0, Nat.zero_le _, rfl, HI3⟩
      case round =>
        clear hx HI3
        obtain ⟨k, hk, rfl, hI⟩ := hrel
        have hx := (HX.out.below hI.out).lc
        have hy := (HY.out.below hI.out).lc
        by_cases hlt : k < l2
        · obtain ⟨b', o', e', _, hc⟩ := (HB.out.below (hin.out _ hI.out)).cell k hlt
          cases e'
          obtain ⟨b'', o'', e'', _, hd⟩ := (HD.out.below (hin.out _ hI.out)).cell k hlt
          cases e''
          obtain ⟨x, hxv⟩ : ∃ x, Hid (S.nw.getD k false = x) := ⟨_, rfl⟩
          rw [hxv.out] at hc hd
          go_wp2
          go_quiet (fail)
          all_goals
            have HI2 := hide (below_drewN hI.out nq)
            clear hI
            have hxx : (x != x) = false := by simp
            go_wp2
            go_roundw
            case rel => exact ⟨k + 1, by omega, by go_num, HI2⟩
            case measure => simp [intOf]; omega
        · have hkk : k = l2 := by omega
          subst hkk
          have HI4 := hide (hin.out _ hI.out)
          clear hI hy
          go_wp2
          go_ret
          exact ⟨rfl, HI4.out⟩
end Go.Proofs.Ytphahkjjmomjcaa
