/- Contract of Add. -/
import Derived.Test.YtfkabmgbcdoijaaTLay

import Derived.Test.YtfkabmgbcdoijaaTOf

namespace Go.Proofs.Ytfkabmgbcdoijaa

open Go.ChangeShapes Go.WideShapes Go.ChangeAt Go.RowKit

set_option linter.unusedVariables false

/-- which error Add tells; 0: none -/
def addE (bs : List TBlk) (r q s : Int) : Int := match idx bs r, idx bs q with
  | some _, _ => 6
  | none, none => 5
  | none, some o => if s ≤ (tb bs o).slot then 7 else if 1024 ≤ bs.length then 12 else 0
/-- an error as it is handed back -/
def errV (n : Int) : Value := if n = 0 then .nilIface else .iface 63 (.int .i64 n)
/-- what Add leaves -/
def Added (F : Nat → Prop) (p : Nat) (bs : List TBlk) (r q s : Int) (w : World) (e : Ending) (w' : World) : Prop :=
  e = .returned (errV (addE bs r q s)) ∧ ((addE bs r q s ≠ 0 ∧ w' = w) ∨ (addE bs r q s = 0 ∧ ∃ o F' k, idx bs q = some o ∧ idx bs r = none ∧ bs.length < 1024 ∧ (tb bs o).slot < s ∧ TAt w' F' p (layB bs r o s k) ∧ k ≤ (tb bs o).kids.length ∧ Spot (tb bs o).kids r k k ∧ Turn F w w' ∧ ∀ i, F' i → F i ∨ w.heap.size ≤ i))

set_option maxRecDepth 100000 in
set_option maxHeartbeats 1000000 in
theorem add_any (F : Nat → Prop) (p : Nat) (bs : List TBlk) (r q s : Int) (w : World) (hT : TAt w F p bs) (hO : TOk bs) (hU : U64 r) (hq : U64 q) (hs : I64 s) :
    Calls Try.prog 16 #[.pointer (some ⟨p, 0, none⟩), .int .u64 r, .int .u64 q, .int .i64 s] w (Added F p bs r q s w) := by
  obtain ⟨mb, g, c, c0, c1, hM, hc, hcm, hcell⟩ := hT.open hO.pos
  have hlook := hM.look q hq
  have HH := hide (has_any F p bs r w hT hO hU)
  have HL := hide (len_any F p bs w hT hO)
  have hlim := hO.lim
  obtain ⟨n, hn⟩ : ∃ n, Hid (bs.length = n) := ⟨_, rfl⟩
  rw [hn.out] at c0 hlim HL
  cases hx : idx bs r with
  | some i =>
    have hE : addE bs r q s = 6 := by unfold addE; rw [hx]
    have hend : Hid (Added F p bs r q s w (.returned (.iface 63 (.int .i64 6))) w) := ⟨by rw [hE]; rfl, .inl ⟨by rw [hE]; decide, rfl⟩⟩
    rw [hx] at HH
    simp only [Option.isSome_some] at HH
    clear hM hcell hT hcm hc hlook hE hx
    go_enter Try.func16, Try.ntmps16
    go_wp2_with (go_at_call 23; refine HH.out.mono ?_; rintro e w' ⟨rfl, hw⟩; obtain rfl : _ = w' := hw.symm)
    go_ret
    exact hend.out
  | none =>
    rw [hx] at HH
    simp only [Option.isSome_none] at HH
    cases hy : idx bs q with
    | none =>
      rw [hy] at hlook
      simp only [Option.isSome_none, Option.getD_none] at hlook
      have hE : addE bs r q s = 5 := by unfold addE; rw [hx, hy]
      have hend : Hid (Added F p bs r q s w (.returned (.iface 63 (.int .i64 5))) w) := ⟨by rw [hE]; rfl, .inl ⟨by rw [hE]; decide, rfl⟩⟩
      clear hM hcell hT hcm hc hE hx hy
      go_enter Try.func16, Try.ntmps16
      go_wp2_with (go_at_call 23; refine HH.out.mono ?_; rintro e w' ⟨rfl, hw⟩; obtain rfl : _ = w' := hw.symm)
      go_ret
      exact hend.out
    | some o =>
      rw [hy] at hlook
      simp only [Option.isSome_some, Option.getD_some] at hlook
      have ho := (idx_some hy).1
      have k2 := (hcell o ho).2.2.1
      have HLay := fun (hl : bs.length < 1024) => lay_any F p bs r o s w hT hO hx hU hs ho hl
      rw [hn.out] at ho HLay
      have hoi : (o : Int) < (n : Int) := by omega
      obtain ⟨z, hz⟩ : ∃ z, Hid ((tb bs o).slot = z) := ⟨_, rfl⟩
      rw [hz.out] at k2
      by_cases h7 : s ≤ z
      · have hE : addE bs r q s = 7 := by unfold addE; rw [hx, hy]; simp only [hz.out, if_pos h7]
        have hend : Hid (Added F p bs r q s w (.returned (.iface 63 (.int .i64 7))) w) := ⟨by rw [hE]; rfl, .inl ⟨by rw [hE]; decide, rfl⟩⟩
        clear hM hcell hT hcm hc hE hx hy HLay
        go_enter Try.func16, Try.ntmps16
        go_wp2_with (go_at_call 23; refine HH.out.mono ?_; rintro e w' ⟨rfl, hw⟩; obtain rfl : _ = w' := hw.symm)
        go_ret
        exact hend.out
      · by_cases h12 : 1024 ≤ n
        · have hE : addE bs r q s = 12 := by unfold addE; rw [hx, hy]; simp only [hz.out, hn.out, if_neg h7, if_pos h12]
          have hend : Hid (Added F p bs r q s w (.returned (.iface 63 (.int .i64 12))) w) := ⟨by rw [hE]; rfl, .inl ⟨by rw [hE]; decide, rfl⟩⟩
          have h12i : (1024 : Int) ≤ (n : Int) := by omega
          clear hM hcell hT hcm hc hE hx hy HLay h12 hlim hO
          go_enter Try.func16, Try.ntmps16
          go_wp2_with (first
            | (go_at_call 23; refine HH.out.mono ?_; rintro e w' ⟨rfl, hw⟩; obtain rfl : _ = w' := hw.symm)
            | (go_at_call 24; refine HL.out.mono ?_; rintro e w' ⟨rfl, hw⟩; obtain rfl : _ = w' := hw.symm))
          go_ret
          exact hend.out
        · have hE : addE bs r q s = 0 := by unfold addE; rw [hx, hy]; simp only [hz.out, hn.out, if_neg h7, if_neg h12]
          have hend : Hid (∀ w', (∃ F' k, TAt w' F' p (layB bs r o s k) ∧ k ≤ (tb bs o).kids.length ∧ Spot (tb bs o).kids r k k ∧ Turn F w w' ∧ ∀ i, F' i → F i ∨ w.heap.size ≤ i) → Added F p bs r q s w (.returned .nilIface) w') := fun w' h => by
            obtain ⟨F', k, h⟩ := h
            exact ⟨by rw [hE]; rfl, .inr ⟨hE, o, F', k, hy, hx, by rw [hn.out]; omega, by rw [hz.out]; omega, h⟩⟩
          have HLay2 := hide (HLay (by omega))
          have h12i : decide ((1024 : Int) ≤ (n : Int)) = false := by simp; omega
          clear hM hcell hT hcm hc hE hx hy HLay h12 hlim hO
          go_enter Try.func16, Try.ntmps16
          go_wp2_with (first
            | (go_at_call 23; refine HH.out.mono ?_; rintro e w' ⟨rfl, hw⟩; obtain rfl : _ = w' := hw.symm)
            | (go_at_call 24; refine HL.out.mono ?_; rintro e w' ⟨rfl, hw⟩; obtain rfl : _ = w' := hw.symm)
            | (go_at_call 25; refine HLay2.out.mono ?_; rintro e w' ⟨rfl, hcq, hw⟩))
          go_ret
          exact hend.out _ (by assumption)
end Go.Proofs.Ytfkabmgbcdoijaa
