/- Reading numbers out of bytes: the plain reading, and the contracts of wire's whole and small. -/
import Derived.Test.YtdigpjfgjlhhjaaOctGet

import Derived.Test.YtdigpjfgjlhhjaaWVote

import Derived.Test.YtdigpjfgjlhhjaaMid

import Derived.Deep.RegionHeld3

namespace Go.Proofs.Ytdigpjfgjlhhjaa

open Go.ChangeShapes Go.WideShapes Go.ChangeAt Go.RowKit

set_option linter.unusedVariables false

/-! ### the plain reading -/
/-- where one is, and whether something was wrong there -/
structure St where
  pos : Nat
  bad : Bool
/-- the number at a place, if it is all there -/
def numAt (bs : List Int) (p : Nat) : Option Int := if p + 8 ≤ bs.length then some (num ((bs.drop p).take 8)) else none
def rWhole (bs : List Int) (s : St) : Int × St := if s.bad = true then (0, s) else match numAt bs s.pos with
  | some v => (v, ⟨s.pos + 8, false⟩)
  | none => (0, ⟨s.pos, true⟩)
def rSmall (bs : List Int) (m : Int) (s : St) : Int × St := if s.bad = true then (0, s) else match numAt bs s.pos with
  | some v => if v ≤ m then (v, ⟨s.pos + 8, false⟩) else (0, ⟨s.pos, true⟩)
  | none => (0, ⟨s.pos, true⟩)

theorem num_b8 {zs : List Int} (h : Bytes8 zs) (hl : zs.length ≤ 8) : 0 ≤ num zs ∧ num zs ≤ 18446744073709551615 := by
  have key : ∀ (l : List Int) (a : Int), Bytes8 l → 0 ≤ a → 0 ≤ l.foldl (fun t z => t * 256 + z) a ∧ l.foldl (fun t z => t * 256 + z) a ≤ (a + 1) * 256 ^ l.length - 1 := by
    intro l
    induction l with
    | nil => intro a _ ha; simp; omega
    | cons z l ih =>
      intro a hb ha
      have hz := hb z (by simp)
      have h := ih (a * 256 + z) (fun x hx => hb x (by simp [hx])) (by omega)
      refine ⟨h.1, Int.le_trans h.2 ?_⟩
      rw [List.length_cons, Int.pow_succ]
      have hp : (0 : Int) ≤ 256 ^ l.length := Int.pow_nonneg (by omega)
      have h1 : a * 256 + z + 1 ≤ (a + 1) * 256 := by omega
      have := Int.mul_le_mul_of_nonneg_right h1 hp
      rw [Int.mul_comm (256 ^ l.length) 256, ← Int.mul_assoc]
      omega
  have h := key zs 0 h (by omega)
  refine ⟨h.1, Int.le_trans h.2 ?_⟩
  have h1 : 256 ^ zs.length ≤ 18446744073709551616 := Nat.pow_le_pow_right (n := 256) (by omega) hl
  have h2 : ((256 ^ zs.length : Nat) : Int) = (256 : Int) ^ zs.length := by rw [Int.natCast_pow]; rfl
  omega
theorem numAt_b {bs : List Int} (h : Bytes8 bs) {p : Nat} {v : Int} (hv : numAt bs p = some v) : IsU64 v := by
  unfold numAt at hv
  split at hv
  · cases hv
    exact num_b8 (fun z hz => h z (List.mem_of_mem_drop (List.mem_of_mem_take hz))) (List.length_take_le 8 _)
  · cases hv

/-! ### the reader -/
abbrev rdC (ab : Option Addr) (n c : Nat) (s : St) : Obj := .cells #[.slice ab n c, .int .i64 (s.pos : Int), .bool s.bad] 55
/-- the reader lies in block r, its bytes elsewhere -/
structure Rd (r : Nat) (w : World) (ab : Option Addr) (n c : Nat) (bs : List Int) (s : St) : Prop where
  obj : w.heap[r]? = some (rdC ab n c s)
  row : RowIn .u8 (hole r w) ab n c bs
  b8 : Bytes8 bs
  pos : s.pos ≤ n
theorem Rd.lt {r : Nat} {w : World} {ab : Option Addr} {n c : Nat} {bs : List Int} {s : St} (h : Rd r w ab n c bs s) : r < w.heap.size := by
  rcases Nat.lt_or_ge r w.heap.size with h' | h'
  · exact h'
  · have := h.obj; rw [Array.getElem?_eq_none h'] at this; cases this
theorem Rd.below {r : Nat} {w w' : World} {ab : Option Addr} {n c : Nat} {bs : List Int} {s : St} (h : Rd r w ab n c bs s) (hb : Below w.heap.size w w') : Rd r w' ab n c bs s :=
  ⟨(hb.block r h.lt).trans h.obj, (Apart.of hb).row h.row, h.b8, h.pos⟩
theorem Rd.alloc {r : Nat} {w : World} {ab : Option Addr} {n c : Nat} {bs : List Int} {s : St} (h : Rd r w ab n c bs s) (o : Obj) : Rd r (w.alloc o) ab n c bs s := h.below (below_alloc _ _)
theorem Rd.drew {r : Nat} {w : World} {ab : Option Addr} {n c : Nat} {bs : List Int} {s : St} (h : Rd r w ab n c bs s) : Rd r w.drew ab n c bs s := h.below (Below.refl _ _).drew
theorem Rd.step {r : Nat} {w : World} {ab : Option Addr} {n c : Nat} {bs : List Int} {s : St} (h : Rd r w ab n c bs s) (p : Nat) (bad : Bool) (hp : p ≤ n) : Rd r ((w.setCell ⟨r, 1, none⟩ (.int .i64 (p : Int))).setCell ⟨r, 2, none⟩ (.bool bad)) ab n c bs ⟨p, bad⟩ :=
  ⟨by rw [set_obj (set_obj h.obj 1 _) 2 _]; rfl, (((Apart.refl r w).set 1 _).set 2 _).row h.row, h.b8, hp⟩
theorem Rd.cells {r : Nat} {w : World} {ab : Option Addr} {n c : Nat} {bs : List Int} {s : St} (h : Rd r w ab n c bs s) : w.cell? ⟨r, 0, none⟩ = some (.slice ab n c) ∧ w.cell? ⟨r, 1, none⟩ = some (.int .i64 (s.pos : Int)) ∧ w.cell? ⟨r, 2, none⟩ = some (.bool s.bad) := by
  have hh := fun i => cell_of_row w r i _ _ _ h.obj
  exact ⟨hh 0, hh 1, hh 2⟩

theorem get_any (bs : List Int) (ab : Option Addr) (n c p : Nat) (w : World) (h : RowIn .u8 w ab n c bs) (h8 : Bytes8 bs) (hp : p ≤ n) :
    Calls Try.prog 35 #[.slice ab n c, .int .i64 (p : Int)] w fun e w' => e = .returned (match numAt bs p with | some v => .tuple #[.int .u64 v, .int .i64 ((p : Int) + 8), .bool true] | none => .tuple #[.int .u64 0, .int .i64 (p : Int), .bool false]) ∧ w' = w := by
  have hl := h.len
  have hc := h.cap
  have hm : n ≤ maxLen := by omega
  unfold numAt
  by_cases h1 : p + 8 ≤ bs.length
  · rw [if_pos h1]
    obtain ⟨b, off, rfl, _, _⟩ := h.cell 0 (by omega)
    refine get_yes ((bs.drop p).take 8) b off n c p w (by simp; omega) (fun z hz => h8 z (List.mem_of_mem_drop (List.mem_of_mem_take hz))) hc.1 hc.2 (by omega) ?_
    exact h.piece p 8 (by omega)
  · rw [if_neg h1]
    refine get_no ab n c p w hm (by omega) ?_
    unfold maxLen at hm
    omega
theorem small_any (bs : List Int) (ab : Option Addr) (n c p : Nat) (m : Int) (w : World) (h : RowIn .u8 w ab n c bs) (h8 : Bytes8 bs) (hp : p ≤ n) (hm : 0 ≤ m ∧ m ≤ 9223372036854775807) :
    Calls Try.prog 32 #[.slice ab n c, .int .i64 (p : Int), .int .i64 m] w fun e w' => e = .returned (match (rSmall bs m ⟨p, false⟩) with | (v, s) => .tuple #[.int .i64 v, .int .i64 (s.pos : Int), .bool (!s.bad)]) ∧ w' = w := by
  have hg := get_any bs ab n c p w h h8 hp
  unfold rSmall
  simp only [Bool.false_eq_true, if_false]
  cases hn : numAt bs p with
  | none =>
    rw [hn] at hg
    exact small_noget _ _ _ _ hg
  | some v =>
    rw [hn] at hg
    have hv := numAt_b h8 hn
    have := small_get _ p m v (p + 8) w hv.1 hv.2 hm.2 hg
    by_cases hle : v ≤ m
    · rw [show smallB v m = true by simp [smallB]; omega, if_pos rfl] at this
      simp only [if_pos hle]
      exact_mod_cast this
    · rw [show smallB v m = false by simp [smallB]; omega, if_neg (by simp)] at this
      simp only [if_neg hle]
      exact this
end Go.Proofs.Ytdigpjfgjlhhjaa
