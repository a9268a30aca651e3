/- A struct, or a part of one, stored into a variable; a struct as a function's result. -/
import Derived.Test.YtpmldjcfmclkkaaDoorWRd

import Derived.Laws.Rows

namespace Go.Proofs.YtpmldjcfmclkkaaDoor

open Go.ChangeShapes Go.WideShapes Go.ChangeAt Go.RowKit

set_option linter.unusedVariables false

theorem setCells_obj {t : TypeId} {m : Nat × Nat} {h : Nat} : ∀ (vs : List Value) (o : Nat) (C : Array Value) (w : World), w.heap[h]? = some (.cells C t m) → (w.setCells h o vs).heap[h]? = some (.cells (wrote C o vs) t m) ∧ Apart h w (w.setCells h o vs)
  | [], o, C, w, hw => ⟨hw, Apart.refl _ _⟩
  | v :: vs, o, C, w, hw => by
    have := setCells_obj vs (o + 1) _ _ (set_obj hw o v)
    exact ⟨this.1, ((Apart.refl h w).set o v).trans this.2⟩
theorem wrote_mid (xs ys zs cs : List Value) (h : cs.length = ys.length) : wrote (xs ++ (ys ++ zs)).toArray xs.length cs = (xs ++ (cs ++ zs)).toArray := by
  apply Array.ext_getElem?
  intro i
  rw [wrote_get cs xs.length _ i (by simp; omega)]
  by_cases h1 : i < xs.length
  · rw [if_neg (by omega), List.getElem?_toArray, List.getElem?_toArray, List.getElem?_append_left h1, List.getElem?_append_left h1]
  · by_cases h2 : i < xs.length + cs.length
    · rw [if_pos (by omega), List.getElem?_toArray, List.getElem?_append_right (by omega), List.getElem?_append_left (by omega)]
    · rw [if_neg (by omega), List.getElem?_toArray, List.getElem?_toArray, List.getElem?_append_right (by omega), List.getElem?_append_right (by omega), List.getElem?_append_right (by omega), List.getElem?_append_right (by omega), h]
/-- a part of a struct is stored -/
theorem store_part {P : Program} {w : World} {h n o : Nat} {ty t : TypeId} {C : Array Value} {cs : List Value} (hi : (P.info? ty).map (·.size) = some n) (hn : cs.length = n) (hC : o + n ≤ C.size) (h1 : ∀ v ∈ cs, v.oneCell' = true) (ho : w.heap[h]? = some (.cells C t (0, 0))) :
    ∃ w', (Instr.storeAt ty (.pointer (some ⟨h, o, none⟩)) (.agg cs.toArray)).run P w = .ok () w' ∧ w'.heap[h]? = some (.cells (wrote C o cs) t (0, 0)) ∧ Apart h w w' := by
  have h2 := setCells_obj cs o C w ho
  refine ⟨w.setCells h o cs, ?_, h2.1, h2.2⟩
  rw [run_storeAt_mid w h o ty cs.toArray (fun j hj => ?_) (by rw [hi]; simp [hn]) (all_oneCell_toArray h1)]
  have hj' : o + j < C.size := by simp at hj; omega
  refine ⟨?_, ?_⟩
  · rw [cell_of_row _ h (o + j) C t _ ho, Array.getElem?_eq_getElem hj']
    rfl
  · unfold World.frozen?
    rw [ho]
    simp
/-- a struct is stored whole -/
theorem store_obj {P : Program} {w : World} {h n : Nat} {ty t : TypeId} {C : Array Value} {cs : List Value} (hi : (P.info? ty).map (·.size) = some n) (hn : cs.length = n) (hC : C.size = n) (h1 : ∀ v ∈ cs, v.oneCell' = true) (ho : w.heap[h]? = some (.cells C t (0, 0))) :
    ∃ w', (Instr.storeAt ty (.pointer (some ⟨h, 0, none⟩)) (.agg cs.toArray)).run P w = .ok () w' ∧ w'.heap[h]? = some (.cells cs.toArray t (0, 0)) ∧ Apart h w w' := by
  have := store_part (o := 0) hi hn (by omega) h1 ho
  rwa [wrote_all C cs (by omega)] at this
/-- a struct of a variable is the result -/
theorem ret_struct {P : Program} {fn : Func} {R : Ending → World → Prop} {a : Act} {w : World} {p : Tmp} {ty t : TypeId} {g : Nat} {cs : List Value} {fs : Array Field} (h : fn.results = #[.cell p ty]) (hp : a.tmps.getD p undef = .pointer (some ⟨g, 0, none⟩))
    (hg : w.heap[g]? = some (.cells cs.toArray t (0, 0))) (hu : P.underlying ty = some (.struct fs)) (hi : (P.info? ty).map (·.size) = some cs.length) (hd : a.defers = []) (hR : R (.returned (.agg cs.toArray)) w) : bodyPost P fn R .ret a w :=
  bodyPost_ret (results_cell_row h a.tmps w g t cs.toArray (0, 0) _ hp hg hu rfl (by rw [hi]; simp)) hd hR

theorem infoPt : (Tryd.prog.info? 33).map (·.size) = some 2 := by kernel_rfl
theorem infoVt : (Tryd.prog.info? 36).map (·.size) = some 7 := by kernel_rfl
theorem infoPf : (Tryd.prog.info? 38).map (·.size) = some 14 := by kernel_rfl
theorem infoBk : (Tryd.prog.info? 31).map (·.size) = some 5 := by kernel_rfl
theorem Apart.os {r : Nat} {w w' : World} (h : Apart r w w') : w'.os = w.os := show (hole r w').os = (hole r w).os from Below.os h
theorem Apart.tape {r : Nat} {w w' : World} (h : Apart r w w') : w'.tape = w.tape := show (hole r w').tape = (hole r w).tape from Below.tape h
theorem Apart.output {r : Nat} {w w' : World} (h : Apart r w w') : w'.output = w.output := show (hole r w').output = (hole r w).output from Below.output h
/-- two blocks that may turn, one behind the other, both new or known -/
theorem Apart.old {r : Nat} {w w' : World} (h : Apart r w w') (B : Nat) (hB : B ≤ w.heap.size) (hr : B ≤ r) : Below B w w' :=
  ⟨h.os, h.tape, h.output, h.size, fun k hk => h.block k (by omega) (by omega)⟩
/-- a store into a block that was made here turns nothing old -/
theorem Apart.inner {r h : Nat} {a w w' : World} (H : Apart r a w) (k : Apart h w w') (hh : a.heap.size ≤ h) (hr : h ≠ r) : Apart r a w' :=
  ⟨k.os.trans H.os, k.tape.trans H.tape, k.output.trans H.output, by rw [hole_size, hole_size]; exact Nat.le_trans H.size k.size, fun i hi => by
    by_cases e : i = r
    · subst e
      have h1 : i < w'.heap.size := Nat.lt_of_lt_of_le hi (Nat.le_trans H.size k.size)
      simp [hole, hi, h1]
    · rw [hole_get _ _ _ e, hole_get _ _ _ e, k.block i (Nat.lt_of_lt_of_le hi H.size) (by omega)]
      exact H.block i hi e⟩
theorem Rd.apart {r h : Nat} {we w w' : World} {ab : Option Addr} {n c : Nat} {bs : List Int} {s s0 : St} (H : Rd r w ab n c bs s) (k : Apart h w w') (E : Rd r we ab n c bs s0) (hh : we.heap.size ≤ h) : Rd r w' ab n c bs s := by
  have hr := E.lt
  refine ⟨(k.block r H.lt (by omega)).trans H.obj, ⟨H.row.len, H.row.nil, fun i hi => ?_, H.row.cap⟩, H.b8, H.pos⟩
  obtain ⟨b, off, e, hlt, hc⟩ := H.row.cell i hi
  obtain ⟨h1, h2⟩ := hole_cell hc
  rw [hole_size] at hlt
  obtain ⟨b', off', e', hlt', _⟩ := E.row.cell i hi
  rw [e] at e'
  cases e'
  rw [hole_size] at hlt'
  refine ⟨b, off, e, by rw [hole_size]; exact Nat.lt_of_lt_of_le hlt k.size, ?_⟩
  unfold World.cell? at hc ⊢
  rw [hole_get _ _ _ h1] at hc ⊢
  rw [k.block b hlt (by omega)]
  exact hc
end Go.Proofs.YtpmldjcfmclkkaaDoor
