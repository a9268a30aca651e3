/- The document's examples of layer 4 ('awake'): they hold, and nothing that was there turns. -/
import Derived.Test.YtdigpjfgjlhhjaaWEnc

namespace Go.Proofs.Ytdigpjfgjlhhjaa

open Go.ChangeShapes Go.WideShapes Go.ChangeAt Go.RowKit

set_option linter.unusedVariables false
def tick (s : Int) : Ev := ⟨0, s, ⟨0, 0, 0, [], []⟩, ⟨0, 0, 0, 0, 0, 0, []⟩, ⟨⟨0, 0, 0, 0, 0, 0, []⟩, ⟨0, 0, 0, 0, 0, 0, []⟩⟩⟩
theorem vote0 (w : World) : VoteC w [.int .i64 0, .int .u64 0, .int .i64 0, .int .u64 0, .int .i64 0, .int .u64 0, .slice none 0 0] ⟨0, 0, 0, 0, 0, 0, []⟩ :=
  ⟨by simp [Vt.Wf, IsI64, IsU64], none, 0, 0, rfl, RowIn.ofNil _ _⟩
theorem rows0 {α : Type} (R : List Value → α → Prop) (size : Nat) (w : World) : RowsIn R size w none 0 0 [] := ⟨rfl, fun _ => ⟨rfl, rfl⟩, by simp [maxLen], fun i hi => by simp at hi⟩
/-- a tick's cells -/
def tickCs (s : Int) : List Value := [.int .i64 0, .int .i64 s, .int .u64 0, .int .u64 0, .int .i64 0, .slice none 0 0, .slice none 0 0, .int .i64 0, .int .u64 0, .int .i64 0, .int .u64 0, .int .i64 0, .int .u64 0, .slice none 0 0,
  .int .i64 0, .int .u64 0, .int .i64 0, .int .u64 0, .int .i64 0, .int .u64 0, .slice none 0 0, .int .i64 0, .int .u64 0, .int .i64 0, .int .u64 0, .int .i64 0, .int .u64 0, .slice none 0 0]
theorem tickC (w : World) (s : Int) (hs : IsI64 s) : EventC w (tickCs s) (tick s) :=
  ⟨⟨by simp [tick, IsI64], hs⟩, [.int .u64 0, .int .u64 0, .int .i64 0, .slice none 0 0, .slice none 0 0], [.int .i64 0, .int .u64 0, .int .i64 0, .int .u64 0, .int .i64 0, .int .u64 0, .slice none 0 0],
    [.int .i64 0, .int .u64 0, .int .i64 0, .int .u64 0, .int .i64 0, .int .u64 0, .slice none 0 0] ++ [.int .i64 0, .int .u64 0, .int .i64 0, .int .u64 0, .int .i64 0, .int .u64 0, .slice none 0 0], rfl,
    ⟨by simp [tick, IsI64, IsU64], none, 0, 0, none, 0, 0, rfl, rows0 _ _ _, rows0 _ _ _⟩, vote0 w, _, _, rfl, vote0 w, vote0 w⟩
theorem infoE : (Try.prog.info? 38).map (fun i => (i.zero, i.size, i.bytes)) = some (some (.agg (tickCs 0).toArray), 28, 304) := by kernel_rfl
theorem evsB_append (xs ys : List Ev) (h : xs.length + ys.length ≤ 4096) : evsB (xs ++ ys) = (evsB xs && evsB ys) := by
  simp only [evsB, List.all_append, List.length_append]
  rw [decide_eq_true h, decide_eq_true (show xs.length ≤ 4096 by omega), decide_eq_true (show ys.length ≤ 4096 by omega)]
  simp
theorem bytesOf_append (xs ys : List Ev) : bytesOf (xs ++ ys) = bytesOf xs ++ bytesOf ys := by simp [bytesOf]
theorem strOfNums_append (xs ys : List Int) : strOfNums xs ++ strOfNums ys = strOfNums (xs ++ ys) := by
  apply ByteArray.ext
  simp [strOfNums, ByteArray.data_append]

set_option maxHeartbeats 1000000 in
theorem awake_any (w : World) : Calls Try.prog 5 #[] w fun e w' => e = .returned (.bool true) ∧ Below w.heap.size w w' := by
  have hR := RowsIn.lit (R := EventC (w.alloc (.cells (tickCs 5).toArray 38))) w w.heap.size (tickCs 5) 38 28 (tick 5) rfl rfl (tickC _ 5 (by simp [IsI64]))
  have HR := hide hR
  have e1 : evsB [tick 5] = true := by decide
  have e2 : bytesOf [tick 5] = [0, 0, 0, 0, 0, 0, 0, 0, 0, 0, 0, 0, 0, 0, 0, 5] := by decide
  clear hR
  go_enter Try.func5, Try.ntmps5
  go_wp2_with fail
  refine (enc_any [tick 5] _ _ _ _ HR.out).mono ?_
  rintro r w1 ⟨ao, n, d, rfl, hnb, hrow, hb1⟩
  rw [e1]
  rw [encBs_yes e1, e2] at hrow
  clear hnb
  have hn : n = 16 := hrow.len.symm
  subst hn
  obtain ⟨b, off, rfl, hbs, c7⟩ := hrow.cell 7 (by omega)
  obtain ⟨b', off', e, _, c15⟩ := hrow.cell 15 (by omega)
  cases e
  have c7 : w1.cell? ⟨b, off + 7, none⟩ = some (.int .u8 0) := c7
  have c15 : w1.cell? ⟨b, off + 15, none⟩ = some (.int .u8 5) := c15
  have HB := hide ((below_alloc w _).trans (hb1.mono (by simp)))
  have hcap := hrow.cap
  unfold maxLen at hcap
  clear hrow hb1
  go_wp2
  go_ret
  exact ⟨rfl, HB.out⟩
end Go.Proofs.Ytdigpjfgjlhhjaa
