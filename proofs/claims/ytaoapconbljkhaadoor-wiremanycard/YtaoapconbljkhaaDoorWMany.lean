/- More than 4096 events: the walk of WireMany. -/
import Derived.Test.YtaoapconbljkhaaDoorWPure
import Derived.Test.YtaoapconbljkhaaDoorWNumb2
namespace Go.Proofs.YtaoapconbljkhaaDoor
open Go.ChangeShapes Go.WideShapes Go.ChangeAt Go.RowKit
set_option linter.unusedVariables false

/-- of more events than there may be: where the next one begins -/
theorem dec_many {bs : List Int} : ∀ (es acc : List Ev) (k p : Nat), bs.drop p = bytesOf es → p ≤ bs.length → k < es.length → (∀ e ∈ es, evB e = true ∧ e.Wf) → rDec bs k acc ⟨p, false⟩ = ([], p + (bytesOf (es.take k)).length, true)
  | [], acc, k, p, h, hp, hk, _ => by simp at hk
  | e :: es, acc, 0, p, h, hp, hk, hb => by
    have hd : bs.drop p = flat (evNs e) ++ bytesOf es := h
    have hpos := evNs_pos e
    have hlen := congrArg List.length hd
    rw [List.length_drop, List.length_append, len_flat] at hlen
    show (if p < bs.length then _ else _) = _
    rw [if_pos (by omega)]
    rfl
  | e :: es, acc, k + 1, p, h, hp, hk, hb => by
    have he := hb e (by simp)
    have hd : bs.drop p = flat (evNs e) ++ bytesOf es := h
    have hpos := evNs_pos e
    have hlen := congrArg List.length hd
    rw [List.length_drop, List.length_append, len_flat] at hlen
    have h1 := event_pre (t := []) (bs := bs) (p := p) ⟨bytesOf es, by rw [List.append_nil]; exact hd⟩ he.1 he.2
    show (if p < bs.length then _ else _) = _
    rw [if_pos (by omega), h1]
    simp only [Bool.false_eq_true, if_false]
    rw [dec_many es (acc ++ [bareE e]) k _ (by rw [← List.drop_drop, hd, ← len_flat, List.drop_left]) (by omega) (by simpa using hk) (fun y hy => hb y (by simp [hy]))]
    have : (bytesOf ((e :: es).take (k + 1))).length = 8 * (evNs e).length + (bytesOf (es.take k)).length := by
      show (evBytes e ++ bytesOf (es.take k)).length = _
      rw [List.length_append, evBytes, len_flat]
    rw [this, Nat.add_assoc]
theorem wpList_make_at {P : Program} {ops : Array Oper} {rest : List Oper} {op : Oper} {a : Act} {w w' : World} {Q : Exit → Act → World → Prop} (t : TypeId) (x y : Operand) (ho : op.op = .makeSlice t x y) (hgd : op.guard = none)
    (vx vy : Value) (hx : a.eval x = vx) (hy : a.eval y = vy) (r : Value) (hrun : (Instr.makeSlice t vx vy).run P w = .ok r w') (h : wpList P ops Q rest (a.put op.dst r) w') : wpList P ops Q (op :: rest) a w :=
  wpList_plain hgd fun _ hK => by
    have := hK _ _ h
    unfold Oper.wp execOp
    simp only [ho, hx, hy, Sem.run_bind, Result.andThen_ok, hrun]
    exact this
/-- the cells of many equal structs -/
theorem made_get (zs : List Value) (n i j : Nat) (hz : 0 < zs.length) (hi : i < n) (hj : j < zs.length) : (madeCells zs.toArray (n * zs.length))[i * zs.length + j]? = zs[j]? := by
  have hlt : i * zs.length + j < n * zs.length := by
    have : (i + 1) * zs.length ≤ n * zs.length := Nat.mul_le_mul_right _ hi
    rw [Nat.add_mul] at this
    omega
  have hmod : (i * zs.length + j) % zs.length = j := by rw [Nat.add_comm, Nat.add_mul_mod_self_right, Nat.mod_eq_of_lt hj]
  simp [madeCells, hlt, hmod, hj]
end Go.Proofs.YtaoapconbljkhaaDoor
