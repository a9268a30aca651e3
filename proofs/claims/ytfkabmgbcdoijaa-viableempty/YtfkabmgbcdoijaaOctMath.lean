/- Plain mathematics of eight bytes and a number: big-endian digits, and where two lists differ first. Nothing of the program. -/
import Derived.Below

import Derived.Laws.Bits64b

import Derived.OpenShut

namespace Go.Proofs.Ytfkabmgbcdoijaa

/-- a fact that the walk is not to use as a rule -/
theorem hide {p : Prop} (h : p) : RowKit.Hid p := h

theorem ret_int {k : IntKind} {a b : Int} (h : a = b) : Ending.returned (.int k a) = .returned (.int k b) := by rw [h]
theorem ret_bool {a b : Bool} (h : a = b) : Ending.returned (.bool a) = .returned (.bool b) := by rw [h]

/-- the number of bytes, the high ones first -/
def num (zs : List Int) : Int := zs.foldl (fun a z => a * 256 + z) 0
def Bytes8 (zs : List Int) : Prop := ∀ z ∈ zs, 0 ≤ z ∧ z ≤ 255

theorem num_snoc (zs : List Int) (z : Int) : num (zs ++ [z]) = num zs * 256 + z := by simp [num, List.foldl_append]
theorem num_take (zs : List Int) (k : Nat) (h : k < zs.length) : num (zs.take (k + 1)) = num (zs.take k) * 256 + zs[k] := by
  rw [List.take_succ_eq_append_getElem h, num_snoc]
theorem fold_bound : ∀ (l : List Int) (a : Int) (m : Nat), (∀ z ∈ l, 0 ≤ z ∧ z ≤ 255) → 0 ≤ a → a < 256 ^ m →
      0 ≤ l.foldl (fun a z => a * 256 + z) a ∧ l.foldl (fun a z => a * 256 + z) a < 256 ^ (m + l.length) := by
  intro l
  induction l with
  | nil => intro a m _ h0 h1; exact ⟨h0, h1⟩
  | cons x l ih =>
    intro a m hl h0 h1
    have hx := hl x (by simp)
    have := ih (a * 256 + x) (m + 1) (fun z hz => hl z (by simp [hz])) (by omega) (by rw [Int.pow_succ]; omega)
    simp only [List.foldl_cons, List.length_cons]
    rw [show m + (l.length + 1) = m + 1 + l.length from by omega]
    exact this
theorem num_bound (zs : List Int) (hz : Bytes8 zs) : 0 ≤ num zs ∧ num zs < 256 ^ zs.length := by
  have := fold_bound zs 0 0 hz (by omega) (by decide)
  rw [Nat.zero_add] at this
  exact this
theorem pow256_mono {j k : Nat} (h : j ≤ k) : (256 : Int) ^ j ≤ 256 ^ k := by
  have : (256 : Nat) ^ j ≤ 256 ^ k := Nat.pow_le_pow_right (by decide) h
  have e : ∀ n : Nat, ((256 ^ n : Nat) : Int) = (256 : Int) ^ n := fun n => by
    induction n with
    | zero => rfl
    | succ n ih => rw [Nat.pow_succ, Int.pow_succ, ← ih]; omega
  rw [← e, ← e]
  omega
theorem num_take_bound (zs : List Int) (hz : Bytes8 zs) (k : Nat) : 0 ≤ num (zs.take k) ∧ num (zs.take k) < 256 ^ k := by
  have h1 := num_bound (zs.take k) (fun z hm => hz z (List.mem_of_mem_take hm))
  exact ⟨h1.1, Int.lt_of_lt_of_le h1.2 (pow256_mono (List.length_take_le _ _))⟩
theorem pow256 (k : Nat) (h : k ≤ 7) : (256 : Int) ^ k * 256 ≤ 18446744073709551616 := by
  have h2 := pow256_mono h
  have h3 : (256 : Int) ^ 7 = 72057594037927936 := by decide
  omega
theorem num8 (zs : List Int) (hz : Bytes8 zs) (h : zs.length ≤ 8) : 0 ≤ num zs ∧ num zs ≤ 18446744073709551615 := by
  have h1 := num_bound zs hz
  have h2 := pow256_mono h
  have h3 : (256 : Int) ^ 8 = 18446744073709551616 := by decide
  omega

/-- one round of 'n*256 + x' -/
theorem num_step (zs : List Int) (hz : Bytes8 zs) (k : Nat) (h : k < zs.length) (h8 : zs.length ≤ 8) :
    IntKind.u64.wrap (IntKind.u64.wrap (num (zs.take k) * 256) + IntKind.u64.wrap zs[k]) = num (zs.take (k + 1)) := by
  rw [num_take zs k h]
  have hb := num_take_bound zs hz k
  have hx := hz zs[k] (List.getElem_mem h)
  have hp := pow256 k (by omega)
  simp only [IntKind.wrap_u64]
  omega

/-- one round of 'n<<8 | x' -/
theorem or_step (zs : List Int) (hz : Bytes8 zs) (k : Nat) (h : k < zs.length) (h8 : zs.length ≤ 8) :
    bits .or .u64 (IntKind.u64.wrap (num (zs.take k) * 256)) (IntKind.u64.wrap zs[k]) = num (zs.take (k + 1)) := by
  rw [num_take zs k h]
  have hb := num_take_bound zs hz k
  have hx := hz zs[k] (List.getElem_mem h)
  have hp := pow256 k (by omega)
  have e1 : IntKind.u64.wrap (num (zs.take k) * 256) = (((num (zs.take k)).toNat <<< 8 : Nat) : Int) := by
    rw [IntKind.wrap_u64, Nat.shiftLeft_eq]; omega
  have e2 : IntKind.u64.wrap zs[k] = ((zs[k].toNat : Nat) : Int) := by rw [IntKind.wrap_u64]; omega
  rw [e1, e2, bits_or_u64_nat _ _ (by rw [Nat.shiftLeft_eq]; omega) (by omega), ← Nat.shiftLeft_add_eq_or_of_lt (by omega), Nat.shiftLeft_eq]
  omega

/-- the first place at which two lists part, or one has ended; -1 where they are the same -/
def parts : List Int → List Int → Nat → Int
  | [], [], _ => -1
  | a :: as, b :: bs, k => if a = b then parts as bs (k + 1) else k
  | _, _, k => k
theorem parts_drop (xs ys : List Int) : ∀ k, k ≤ xs.length → k ≤ ys.length → xs.take k = ys.take k → parts xs ys 0 = parts (xs.drop k) (ys.drop k) k := by
  intro k
  induction k with
  | zero => intro _ _ _; simp
  | succ k ih =>
    intro h1 h2 h
    have ht : xs.take k = ys.take k := by
      have := congrArg (List.take k) h
      simpa [List.take_take] using this
    rw [ih (by omega) (by omega) ht]
    have hg : xs[k] = ys[k] := by
      have := congrArg (fun l => l[k]?) h
      simpa [List.getElem?_take, h1, h2] using this
    rw [List.drop_eq_getElem_cons (show k < xs.length by omega), List.drop_eq_getElem_cons (show k < ys.length by omega), parts, if_pos hg]
theorem parts_at (xs ys : List Int) (k : Nat) (h1 : k < xs.length) (h2 : k < ys.length) (h : xs.take k = ys.take k) (hne : xs[k] ≠ ys[k]) : parts xs ys 0 = k := by
  rw [parts_drop xs ys k (by omega) (by omega) h, List.drop_eq_getElem_cons h1, List.drop_eq_getElem_cons h2, parts, if_neg hne]
theorem parts_short (xs ys : List Int) (k : Nat) (hk : k = min xs.length ys.length) (h : xs.take k = ys.take k) (hne : xs.length ≠ ys.length) : parts xs ys 0 = k := by
  rw [parts_drop xs ys k (by omega) (by omega) h]
  by_cases hx : xs.length = k
  · rw [List.drop_of_length_le (by omega), List.drop_eq_getElem_cons (show k < ys.length by omega), parts]
    all_goals (simp; try omega)
  · rw [List.drop_of_length_le (l := ys) (by omega), List.drop_eq_getElem_cons (show k < xs.length by omega), parts]
    all_goals (simp; try omega)
theorem parts_same (xs : List Int) : ∀ k, parts xs xs k = -1 := by
  induction xs with
  | nil => intro k; rfl
  | cons x xs ih => intro k; rw [parts, if_pos rfl, ih]
theorem parts_symm : ∀ (xs ys : List Int) (k : Nat), parts xs ys k = parts ys xs k
  | [], [], _ => rfl
  | [], _ :: _, _ => rfl
  | _ :: _, [], _ => rfl
  | x :: xs, y :: ys, k => by
    simp only [parts]
    by_cases h : x = y
    · rw [if_pos h, if_pos h.symm]; exact parts_symm xs ys (k + 1)
    · rw [if_neg h, if_neg (fun e => h e.symm)]
theorem fold_lt : ∀ (xs ys : List Int) (a b : Int), xs.length = ys.length → Bytes8 xs → Bytes8 ys → a < b →
    xs.foldl (fun a z => a * 256 + z) a < ys.foldl (fun a z => a * 256 + z) b
  | [], [], _, _, _, _, _, h => h
  | [], _ :: _, _, _, h, _, _, _ => by simp at h
  | _ :: _, [], _, _, h, _, _, _ => by simp at h
  | x :: xs, y :: ys, a, b, hl, hx, hy, h => by
    simp only [List.foldl_cons]
    have h1 := hx x (by simp)
    have h2 := hy y (by simp)
    exact fold_lt xs ys _ _ (by simpa using hl) (fun z hz => hx z (by simp [hz])) (fun z hz => hy z (by simp [hz])) (by omega)
/-- where two lists of bytes part, and which of them is the greater number -/
theorem parts_order : ∀ (xs ys : List Int) (j : Nat) (a : Int), xs.length = ys.length → Bytes8 xs → Bytes8 ys → xs ≠ ys →
    ∃ k, k < xs.length ∧ parts xs ys j = ((j + k : Nat) : Int) ∧ xs.getD k 0 ≠ ys.getD k 0 ∧
      (xs.getD k 0 < ys.getD k 0 → xs.foldl (fun a z => a * 256 + z) a < ys.foldl (fun a z => a * 256 + z) a) ∧
      (ys.getD k 0 < xs.getD k 0 → ys.foldl (fun a z => a * 256 + z) a < xs.foldl (fun a z => a * 256 + z) a)
  | [], [], _, _, _, _, _, h => absurd rfl h
  | [], _ :: _, _, _, h, _, _, _ => by simp at h
  | _ :: _, [], _, _, h, _, _, _ => by simp at h
  | x :: xs, y :: ys, j, a, hl, hx, hy, hne => by
    have hl' : xs.length = ys.length := by simpa using hl
    have hx' : Bytes8 xs := fun z hz => hx z (by simp [hz])
    have hy' : Bytes8 ys := fun z hz => hy z (by simp [hz])
    by_cases e : x = y
    · subst e
      obtain ⟨k, hk, hp, hd, h1, h2⟩ := parts_order xs ys (j + 1) (a * 256 + x) hl' hx' hy' (fun h => hne (by rw [h]))
      refine ⟨k + 1, by simp; omega, ?_, by simpa using hd, by simpa using h1, by simpa using h2⟩
      rw [parts, if_pos rfl, hp]
      congr 1
      omega
    · refine ⟨0, by simp, by rw [parts, if_neg e]; rfl, by simpa using e, ?_, ?_⟩
      · intro h
        simp only [List.foldl_cons]
        exact fold_lt xs ys _ _ hl' hx' hy' (by simp at h; omega)
      · intro h
        simp only [List.foldl_cons]
        exact fold_lt ys xs _ _ hl'.symm hy' hx' (by simp at h; omega)
theorem take_snoc_eq (xs ys : List Int) (k : Nat) (h1 : k < xs.length) (h2 : k < ys.length) (h : xs.take k = ys.take k) (he : xs[k] = ys[k]) : xs.take (k + 1) = ys.take (k + 1) := by
  rw [List.take_succ_eq_append_getElem h1, List.take_succ_eq_append_getElem h2, h, he]

/-- a row of numbers that is read: its elements -/
structure RowIn (k : IntKind) (w : World) (ao : Option Addr) (n c : Nat) (zs : List Int) : Prop where
  len : zs.length = n
  nil : ao = none → n = 0 ∧ c = 0
  cell : ∀ i, i < n → ∃ b off, ao = some ⟨b, off, none⟩ ∧ b < w.heap.size ∧ w.cell? ⟨b, off + i, none⟩ = some (.int k (zs.getD i 0))
  cap : n ≤ c ∧ c ≤ maxLen

theorem RowIn.ofNil (k : IntKind) (w : World) : RowIn k w none 0 0 [] := ⟨rfl, fun _ => ⟨rfl, rfl⟩, fun i hi => by omega, by simp [maxLen]⟩
theorem RowIn.below {k : IntKind} {w w' : World} {ao : Option Addr} {n c : Nat} {zs : List Int} (h : RowIn k w ao n c zs) (hb : RowKit.Below w.heap.size w w') : RowIn k w' ao n c zs :=
  ⟨h.len, h.nil, fun i hi => by
    obtain ⟨b, off, e, hlt, hc⟩ := h.cell i hi
    exact ⟨b, off, e, Nat.lt_of_lt_of_le hlt hb.size, (hb.cell (p := ⟨b, off + i, none⟩) hlt).trans hc⟩, h.cap⟩
theorem RowIn.alloc {k : IntKind} {w : World} {ao : Option Addr} {n c : Nat} {zs : List Int} (h : RowIn k w ao n c zs) (o : Obj) : RowIn k (w.alloc o) ao n c zs :=
  h.below ((RowKit.Below.refl _ _).alloc (Nat.le_refl _) o)
/-- the row that was laid last -/
theorem RowIn.lit (k : IntKind) (w : World) (g : Nat) (C : Array Value) (e : TypeId) (m : Nat × Nat) (n c : Nat) (zs : List Int) (hg : g = w.heap.size) (hC : C = (zs.map (Value.int k)).toArray) (hn : zs.length = n) (hc : n ≤ c ∧ c ≤ maxLen) :
    RowIn k (w.alloc (.cells C e m)) (some ⟨g, 0, none⟩) n c zs := by
  subst hg
  refine ⟨hn, fun h => by (cases h), fun i hi => ⟨w.heap.size, 0, rfl, by simp, ?_⟩, hc⟩
  rw [Nat.zero_add, cell_of_row _ w.heap.size i C e m (heap_alloc_new w _), hC]
  simp [List.getD_eq_getElem?_getD, List.getElem?_eq_getElem (show i < zs.length by omega)]
/-- an owned row -/
theorem RowIn.owned {w : World} {base e g n cap : Nat} {k : IntKind} {zs : List Int} (h : w.ownsRow base e 1 (.slice (some ⟨g, 0, none⟩) n cap) n (zs.map (Value.int k))) : RowIn k w (some ⟨g, 0, none⟩) n cap zs := by
  have hl : zs.length = n := by have := h.1; simpa using this
  have hlt := (h.lt g rfl).2
  refine ⟨hl, fun h => by (cases h), fun i hi => ⟨g, 0, rfl, hlt, ?_⟩, ?_⟩
  · rw [Nat.zero_add, h.cellAt i (by omega)]
    simp [List.getD_eq_getElem?_getD, List.getElem?_eq_getElem (show i < zs.length by omega)]
  · rcases h.2 with ⟨h, _⟩ | ⟨g', cap', cur, h, _, _, hnc, hcm, _⟩
    · simp at h
    · simp only [Value.slice.injEq, Option.some.injEq, Addr.mk.injEq, and_true, true_and] at h
      obtain ⟨rfl, rfl⟩ := h
      exact ⟨hnc, hcm⟩
/-- a piece of a row -/
theorem RowIn.piece {k : IntKind} {w : World} {b off n c : Nat} {zs : List Int} (h : RowIn k w (some ⟨b, off, none⟩) n c zs) (p m : Nat) (hp : p + m ≤ n) :
    ∀ i, i < m → w.cell? ⟨b, off + p + i, none⟩ = some (.int k (((zs.drop p).take m).getD i 0)) := by
  intro i hi
  obtain ⟨b', off', e, _, hc⟩ := h.cell (p + i) (by omega)
  cases e
  rw [Nat.add_assoc, hc]
  have := h.len
  simp [List.getD_eq_getElem?_getD, hi]

/-- what the frame tells the walk of a slice of integers that came in: nil, or a row of 'cap' numbers 'zs', the first 'len' of them its elements -/
def IsRow (k : IntKind) (w : World) (a : Option Addr) (len cap : Nat) (zs : List Int) : Prop :=
  (a = none ∧ len = 0 ∧ cap = 0 ∧ zs = []) ∨
  ∃ x, a = some x ∧ len ≤ cap ∧ cap ≤ maxLen ∧ zs.length = cap ∧ (∀ i, i < zs.length → w.cell? (x.add i) = some (.int k (zs.getD i 0))) ∧ ∀ n ∈ zs, (Lit.int k n).wf = true

theorem IsRow.row {k : IntKind} {w : World} {a : Option Addr} {len cap : Nat} {zs : List Int} (h : IsRow k w a len cap zs) : RowIn k w a len cap (zs.take len) := by
  rcases h with ⟨rfl, rfl, rfl, rfl⟩ | ⟨x, rfl, hl, hm, hz, hcell, _⟩
  · exact RowIn.ofNil _ _
  · refine ⟨by simp; omega, fun h => by (cases h), fun i hi => ?_, hl, hm⟩
    obtain ⟨b, off, spot⟩ := x
    have hc0 := hcell 0 (by omega)
    have hspot : spot = none := by simpa [Addr.add] using World.cell?_spot hc0
    subst hspot
    have hc := hcell i (by omega)
    rw [Addr.add_lit] at hc
    refine ⟨b, off, rfl, World.block_lt_of_cell? w _ hc, hc.trans ?_⟩
    simp [List.getD_eq_getElem?_getD, hi]
theorem IsRow.wf {k : IntKind} {w : World} {a : Option Addr} {len cap : Nat} {zs : List Int} (h : IsRow k w a len cap zs) : ∀ n ∈ zs.take len, (Lit.int k n).wf = true := by
  rcases h with ⟨rfl, rfl, rfl, rfl⟩ | ⟨x, rfl, hl, hm, hz, hcell, hw⟩
  · intro n hn; simp at hn
  · exact fun n hn => hw n (List.mem_of_mem_take hn)
theorem IsRow.bytes {w : World} {a : Option Addr} {len cap : Nat} {zs : List Int} (h : IsRow .u8 w a len cap zs) : Bytes8 (zs.take len) := by
  intro z hz
  have := h.wf z hz
  simpa [Lit.wf, IntKind.min, IntKind.max, IntKind.signed, IntKind.bits] using this
theorem IsRow.u64 {w : World} {a : Option Addr} {len cap : Nat} {zs : List Int} (h : IsRow .u64 w a len cap zs) : ∀ z ∈ zs.take len, 0 ≤ z ∧ z ≤ 18446744073709551615 := by
  intro z hz
  have := h.wf z hz
  simpa [Lit.wf, IntKind.min, IntKind.max, IntKind.signed, IntKind.bits] using this
theorem wf_i64 {a : Int} (h : (Lit.int .i64 a).wf = true) : -9223372036854775808 ≤ a ∧ a ≤ 9223372036854775807 := by
  simpa [Lit.wf, IntKind.min, IntKind.max, IntKind.signed, IntKind.bits] using h
theorem wf_u64 {a : Int} (h : (Lit.int .u64 a).wf = true) : 0 ≤ a ∧ a ≤ 18446744073709551615 := by
  simpa [Lit.wf, IntKind.min, IntKind.max, IntKind.signed, IntKind.bits] using h
end Go.Proofs.Ytfkabmgbcdoijaa
