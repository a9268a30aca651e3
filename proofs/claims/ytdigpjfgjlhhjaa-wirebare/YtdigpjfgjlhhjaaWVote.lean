/- Contracts of psephoslaw04's vote: a vote's numbers. -/
import Derived.Test.YtdigpjfgjlhhjaaRows

import Derived.WalkKit

import Derived.ProofKit

import Derived.Deep.Onto

import Derived.Test.YtdigpjfgjlhhjaaEvents

import Derived.Test.YtdigpjfgjlhhjaaObjs

import Derived.Test.YtdigpjfgjlhhjaaRowLaws

namespace Go.Proofs.Ytdigpjfgjlhhjaa

open Go.ChangeShapes Go.WideShapes Go.ChangeAt Go.RowKit

set_option linter.unusedVariables false

/-- a number as a uint64 -/
def u64 (x : Int) : Int := x % 18446744073709551616
theorem u64_eq (x : Int) : IntKind.u64.wrap x = u64 x := IntKind.wrap_u64 x
/-- a vote's numbers -/
def voteNs (v : Vt) : List Int := [u64 v.slot, v.head, u64 v.sE, v.sR, u64 v.tE, v.tR, (v.who.length : Int)] ++ v.who.map u64
theorem voteNs_len (v : Vt) : (voteNs v).length = 7 + v.who.length := by simp [voteNs]; omega

abbrev votC (v : Vt) (ao : Option Addr) (l c : Nat) : Obj := .cells #[.int .i64 v.slot, .int .u64 v.head, .int .i64 v.sE, .int .u64 v.sR, .int .i64 v.tE, .int .u64 v.tR, .slice ao l c] 34

theorem infoU64 : (Try.prog.info? 25).map (fun i => (i.zero, i.size, i.bytes)) = some (some (.int .u64 0), 1, 8) := by kernel_rfl

/-- an owned row, nil or not, of numbers -/
def OwnsU (w : World) (base : Nat) (v : Value) (ns : List Int) : Prop := w.ownsRow base 25 1 v ns.length (ns.map (Value.int .u64))


set_option maxHeartbeats 1000000 in
theorem lvote_any (v : Vt) (cs : List Value) (w : World) (h : VoteC w cs v) (hl : v.who.length ≤ 4096) :
    Calls Try.prog 19 #[.agg cs.toArray] w fun e w' => ∃ r, e = .returned r ∧ OwnsU w' w.heap.size r (voteNs v) ∧ Below w.heap.size w w' := by
  obtain ⟨hw, ao, l, c, rfl, hr⟩ := h
  have hlen := hr.len
  have hcap := hr.cap
  have HW := hide hw
  have HR := hide hr
  unfold maxLen at hcap
  clear hw hr
  obtain ⟨i0, hi, hz0, hz1, hz2⟩ := info_parts infoU64
  go_enter Try.func19, Try.ntmps19
  go_wp2
  go_loopw [3, 33] (fun x i wr => ∃ (k : Nat) (d : Nat) (g : Nat), k ≤ l ∧ i = .int .i64 k ∧ x = .slice (some ⟨g, 0, none⟩) (7 + k) d ∧
      Hid (wr.ownsRow (w.heap.size + 1) 25 1 (.slice (some ⟨g, 0, none⟩) (7 + k) d) (7 + k) (((voteNs v).take (7 + k)).map (Value.int .u64)) ∧ Below (w.heap.size + 1) (w.alloc (votC v ao l c)) wr)) (fun _ i _ => l - (intOf i).toNat)
  case atStart =>
    refine ⟨0, 7, w.heap.size + 1, Nat.zero_le _, rfl, rfl, hide ⟨?_, ?_⟩⟩
    · have h := World.ownsRow_lit (base := w.heap.size + 1) (e := 25) (size := 1) (w.alloc (votC v ao l c)) #[.int .u64 (IntKind.u64.wrap v.slot), .int .u64 v.head, .int .u64 (IntKind.u64.wrap v.sE), .int .u64 v.sR, .int .u64 (IntKind.u64.wrap v.tE), .int .u64 v.tR, .int .u64 l] 7 (by simp) (by simp [maxLen]) (by simp)
      simpa [voteNs, u64_eq, hlen] using h
    · exact (Below.refl _ _).alloc (by simp) _
  case round =>
    obtain ⟨k, d, g, hk, rfl, rfl, hI⟩ := hrel
    have hbel := hI.out.2
    have hb0 : Below w.heap.size w wr := (below_alloc w _).trans (hbel.mono (by omega))
    have HB0 := hide hb0
    have hsz : w.heap.size + 1 ≤ wr.heap.size := by have := hbel.size; simpa using this
    by_cases hlt : k < l
    · obtain ⟨b, off, rfl, hbs, hcn⟩ := (HR.out.below hb0).cell k hlt
      clear hbel hb0
      obtain ⟨x, hx⟩ : ∃ x, Hid (v.who.getD k 0 = x) := ⟨_, rfl⟩
      rw [hx.out] at hcn
      go_wp2_with (at_builtin; refine wpList_append_rows _ rfl (.tmp 37) (.tmp 40) 48 rfl (w.heap.size + 1) 25 i0 .u64 (.int .u64 0) 8 Try.underlying48 hi hz0 hz1 hz2 rfl (.slice (some ⟨g, 0, none⟩) (7 + k) d) (7 + k) ((voteNs v).take (7 + k)) rfl (hI.out.1.alloc _) (some ⟨wr.heap.size, 0, none⟩) 1 1 [_] rfl (RowIn.lit .u64 _ _ _ _ _ _ _ [_] rfl rfl rfl (by simp [maxLen])) ?c1 ?c2 ?c3 ?_)
      case c1 => unfold maxLen; omega
      case c2 => omega
      case c3 => simp; omega
      intro ao4 d4 w4 hown4 hgrow4
      obtain ⟨g4, d4', e4⟩ : ∃ g d', Value.slice ao4 (7 + k + 1) d4 = .slice (some ⟨g, 0, none⟩) (7 + k + 1) d' := by
        rcases hown4.2 with ⟨e, h⟩ | ⟨g, cap, cur, e, _⟩
        · omega
        · exact ⟨g, cap, e⟩
      cases e4
      have hst : Hid (w4.ownsRow (w.heap.size + 1) 25 1 (.slice (some ⟨g4, 0, none⟩) (7 + (k + 1)) d4) (7 + (k + 1)) (((voteNs v).take (7 + (k + 1))).map (Value.int .u64)) ∧ Below (w.heap.size + 1) (w.alloc (votC v (some ⟨b, off, none⟩) l c)) w4) := by
        refine ⟨?_, ?_⟩
        · have e : (voteNs v).take (7 + (k + 1)) = (voteNs v).take (7 + k) ++ [IntKind.u64.wrap x] := by
            rw [← Nat.add_assoc, List.take_succ_eq_append_getElem (by rw [voteNs_len]; omega)]
            congr 2
            rw [← hx.out, u64_eq]
            simp only [voteNs]
            rw [List.getElem_append_right (by simp)]
            simp [List.getD_eq_getElem?_getD, List.getElem?_eq_getElem (show k < v.who.length by omega)]
          rw [e, List.map_append, List.map_take]
          exact hown4
        · exact (hI.out.2.alloc (by omega) _).grown hgrow4 (by simp; omega) (fun j hj => (hI.out.1.lt j hj).1)
      clear hown4 hgrow4 hI
      go_wp2
      go_roundw
      case rel => exact ⟨k + 1, _, g4, by omega, by go_num, by congr 1, hst⟩
      case measure => simp [intOf]; omega
    · have : k = l := by omega
      subst this
      go_wp2
      go_ret
      refine ⟨_, rfl, ?_, HB0.out⟩
      have h := hI.out.1
      rw [List.take_of_length_le (by rw [voteNs_len]; omega)] at h
      have e : (voteNs v).length = 7 + k := by rw [voteNs_len, hlen]
      unfold OwnsU
      rw [e]
      exact World.ownsRow.mono h (by omega)
end Go.Proofs.Ytdigpjfgjlhhjaa
