/- Structs loaded whole: behind a guard, and in a region that draws its order. -/
import Derived.Test.YtdigpjfgjlhhjaaWAwake

import Derived.Test.YtdigpjfgjlhhjaaHand

import Derived.Deep.RegionHeld3

import Derived.Great.BuildSlice

namespace Go.Proofs.Ytdigpjfgjlhhjaa

open Go.ChangeShapes Go.WideShapes Go.ChangeAt Go.RowKit

set_option linter.unusedVariables false

/-- a load behind a guard that has it -/
theorem wpList_load_at_g {P : Program} {ops : Array Oper} {rest : List Oper} {op : Oper} {a : Act} {w : World} {Q : Exit → Act → World → Prop} (ty : TypeId) (x : Operand) (ho : op.op = .load ty x) (hw : Region.wanted op (yielded ops a.tmps) = true)
    (v : Value) (hx : a.eval x = v) (r : Value) (hrun : (Instr.loadAt ty v).run P w = .ok r w)
    (h : wpList P ops Q rest (a.put op.dst r) w) : wpList P ops Q (op :: rest) a w :=
  wpList_step fun _ hK => by
    have := hK _ _ h
    rw [if_pos hw]
    unfold Oper.wp execOp
    simp only [ho, hx, Sem.run_bind, Result.andThen_ok, hrun]
    exact this
theorem range_obj {h : Nat} {cs : List Value} {t : TypeId} : ∀ w : World, w.heap[h]? = some (.cells cs.toArray t (0, 0)) → w.rangeAt h 0 cs := fun w ho j v hv => by
  rw [Nat.zero_add, cell_of_row w h j _ t _ ho]
  simpa using hv
/-- in a region that draws its order: an event that lies in a variable of its own is loaded first -/
theorem take_event {md : Region.Mode} {ops : Array Oper} {S : World → Prop} {Q : Exit → Act → World → Prop} {i : Nat} {oi : Oper} {fuel : Nat} {listed : Array Bool} {a : Act} {w : World} (h : Nat) (cs : List Value) (x : Operand) (hl : cs.length = 28) (hi : ops[i]? = some oi)
    (hs : Region.noSelect ops = true) (hf : Region.free md ops listed i = true) (hr : (Region.ready md ops listed).contains i = true)
    (hQ : ∀ c a w, Q (.panic c) (a.put oi.dst (.agg cs.toArray)) w → Q (.panic c) a w) (hw : Region.wanted oi (yielded ops a.tmps) = true) (ho : oi.op = .load 38 x) (hx : a.eval x = .pointer (some ⟨h, 0, none⟩))
    (hS : S w) (hO : ∀ w, S w → w.heap[h]? = some (.cells cs.toArray 38 (0, 0)))
    (hn : wpAnyH Try.prog md ops Q S fuel (listed.setIfInBounds i true) (a.put oi.dst (.agg cs.toArray)) w) : wpAnyH Try.prog md ops Q S (fuel + 1) listed a w :=
  wpAnyH_take hi hs hf hr hQ (yieldsIf_load_mid hw 38 x ho h 0 hx cs _ (fun w h => range_obj w (hO w h)) Try.underlying38 rfl (by rw [hl]; exact infoEv)) hS hn
theorem fold_wrote (o : Nat) : ∀ (cs : List Value) (k : Nat) (Z : Array Value), (cs.zipIdx k).foldl (fun C (x : Value × Nat) => C.setIfInBounds (o + x.2) x.1) Z = wrote Z (o + k) cs
  | [], _, _ => rfl
  | c :: cs, k, Z => by
    rw [List.zipIdx_cons, List.foldl_cons, fold_wrote o cs (k + 1), wrote]
    rfl
theorem fill_one (n : Nat) (cs : List Value) (Z : Array Value) (hl : cs.length = n) (hZ : Z.size = n) : Instr.fill (fun i => some (i * n, n)) Z [(0, .agg cs.toArray)] = some cs.toArray := by
  have h : (Value.agg cs.toArray).cells = cs.toArray := rfl
  have hf : cs.toArray.zipIdx.foldl (fun C (x : Value × Nat) => C.setIfInBounds (0 * n + x.2) x.1) Z = cs.toArray := by
    rw [← Array.foldl_toList, Array.toList_zipIdx, fold_wrote, Nat.zero_mul, Nat.zero_add, wrote_all Z cs (by rw [hl, hZ])]
  unfold Instr.fill
  simp only [h, List.size_toArray, hl, hZ]
  rw [if_neg (by simp)]
  unfold Instr.fill
  exact congrArg some hf
/-- a slice of one struct -/
theorem wpList_build_one {P : Program} {ops : Array Oper} {rest : List Oper} {o : Oper} {a : Act} {w : World} {Q : Exit → Act → World → Prop} (hg : o.guard = none) (t e : TypeId) (x : Operand) (ho : o.op = .buildSlice t 1 #[(0, x)])
    (cs : List Value) (n : Nat) (hx : a.eval x = .agg cs.toArray) (hl : cs.length = n) (hn : 0 < n ∧ n ≤ 1000) (ie : TypeInfo) (z : Value) (hu : P.underlying t = some (.slice e)) (hie : P.info? e = some ie) (hz : ie.zero = some z) (hsz : ie.size = n)
    (h : wpList P ops Q rest (a.put o.dst (.slice (some ⟨w.heap.size, 0, none⟩) 1 1)) (w.alloc (.cells cs.toArray e))) : wpList P ops Q (o :: rest) a w := by
  refine wpList_buildSlice hg t e 1 _ ho cs.toArray ie z hu hie hz (by rw [hsz]; omega) (by rw [hsz]; omega) ?_ h
  rw [hsz]
  simp only [List.map_toArray, List.map_cons, List.map_nil, hx]
  exact fill_one n cs _ hl (by simp)
end Go.Proofs.Ytdigpjfgjlhhjaa
