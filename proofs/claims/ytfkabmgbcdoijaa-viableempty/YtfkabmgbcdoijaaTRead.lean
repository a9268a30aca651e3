/- Contracts of what only reads a tree: Has, Len, First, stands, Below, At, Get. -/
import Derived.Test.YtfkabmgbcdoijaaTRep

import Derived.WalkKit

import Derived.ProofKit

import Derived.Deep.QuietTactic

import Derived.BigQuiet

import Derived.Deep.CutRange

namespace Go.Proofs.Ytfkabmgbcdoijaa

open Go.ChangeShapes Go.WideShapes Go.ChangeAt Go.RowKit

set_option linter.unusedVariables false

def tz : TBlk := ⟨0, 0, 0, 0, []⟩
/-- the block at a place -/
def tb (bs : List TBlk) (i : Nat) : TBlk := bs.getD i tz
theorem tb_lt {bs : List TBlk} {i : Nat} (h : i < bs.length) : tb bs i = bs[i] := by simp [tb, List.getD_eq_getElem?_getD, List.getElem?_eq_getElem h]
def U64 (r : Int) : Prop := 0 ≤ r ∧ r ≤ 18446744073709551615
def I64 (r : Int) : Prop := -9223372036854775808 ≤ r ∧ r ≤ 9223372036854775807
/-- a tree that may be: each block behind its parent -/
structure TOk (bs : List TBlk) : Prop where
  pos : 0 < bs.length
  lim : bs.length ≤ 1024
  par : ∀ i, 0 < i → i < bs.length → (tb bs i).par < i
  par0 : (tb bs 0).par = 0
  one : ∀ i j, i < bs.length → j < bs.length → (tb bs i).root = (tb bs j).root → i = j
  root : ∀ i, i < bs.length → U64 (tb bs i).root
  slot : ∀ i, i < bs.length → I64 (tb bs i).slot
  high : ∀ i, i < bs.length → (tb bs i).high ≤ i
  kids : ∀ i, i < bs.length → (tb bs i).kids.length ≤ bs.length
  high0 : (tb bs 0).high = 0
  step : ∀ i, 0 < i → i < bs.length → (tb bs i).high = (tb bs (tb bs i).par).high + 1
  kr : ∀ i, i < bs.length → (tb bs i).kids.Pairwise (· < ·)
  km : ∀ i, i < bs.length → ∀ x, x ∈ (tb bs i).kids ↔ ∃ j, 0 < j ∧ j < bs.length ∧ (tb bs j).par = i ∧ (tb bs j).root = x
theorem TOk.par_le {bs : List TBlk} (h : TOk bs) {i : Nat} (hi : i < bs.length) : (tb bs i).par < bs.length := by
  by_cases h0 : 0 < i
  · have := h.par i h0 hi; omega
  · have : i = 0 := by omega
    subst this
    rw [h.par0]; exact hi
theorem idx_some {bs : List TBlk} {r : Int} {i : Nat} (h : idx bs r = some i) : i < bs.length ∧ (tb bs i).root = r := by
  unfold idx at h
  obtain ⟨hlt, h1, _⟩ := List.findIdx?_eq_some_iff_getElem.1 h
  refine ⟨hlt, ?_⟩
  rw [tb_lt hlt]
  simpa using h1
theorem idx_none {bs : List TBlk} {r : Int} (h : idx bs r = none) (i : Nat) (hi : i < bs.length) : (tb bs i).root ≠ r := by
  unfold idx at h
  rw [List.findIdx?_eq_none_iff] at h
  have := h bs[i] (List.getElem_mem hi)
  rw [tb_lt hi]
  simpa using this
theorem idx_of {bs : List TBlk} (h : TOk bs) {i : Nat} (hi : i < bs.length) : idx bs (tb bs i).root = some i := by
  cases hx : idx bs (tb bs i).root with
  | none => exact absurd rfl (idx_none hx i hi)
  | some j =>
    obtain ⟨h1, h2⟩ := idx_some hx
    rw [h.one j i h1 hi h2]

/-- what a tree's struct and rows are -/
theorem TAt.open {w : World} {F : Nat → Prop} {p : Nat} {bs : List TBlk} (h : TAt w F p bs) (h0 : 0 < bs.length) :
    ∃ mb g c, w.cell? ⟨p, 0, none⟩ = some (.slice (some ⟨g, 0, none⟩) bs.length c) ∧ w.cell? ⟨p, 1, none⟩ = some (.map (some mb)) ∧ MapP w mb bs.length (idx bs) ∧ bs.length ≤ c ∧ c ≤ maxLen ∧
      ∀ i, i < bs.length → w.cell? ⟨g, i * 5, none⟩ = some (.int .u64 (tb bs i).root) ∧ w.cell? ⟨g, i * 5 + 1, none⟩ = some (.int .i64 ((tb bs i).par : Int)) ∧ w.cell? ⟨g, i * 5 + 2, none⟩ = some (.int .i64 (tb bs i).slot) ∧ w.cell? ⟨g, i * 5 + 3, none⟩ = some (.int .i64 ((tb bs i).high : Int)) := by
  obtain ⟨mb, bv, ks, h1, h2, h3, h4, h5, h6⟩ := h
  obtain ⟨ao, c, rfl, hc, hcm, hcell⟩ := h2.cells
  obtain ⟨g, rfl, _, _⟩ := hcell 0 h0
  refine ⟨mb, g, c, h1.cell 0, h1.cell 1, h3, hc, hcm, fun i hi => ?_⟩
  obtain ⟨g', e, _, hx⟩ := hcell i hi
  cases e
  rw [tb_lt hi]
  exact ⟨hx 0 (by omega), hx 1 (by omega), hx 2 (by omega), hx 3 (by omega)⟩

theorem has_any (F : Nat → Prop) (p : Nat) (bs : List TBlk) (r : Int) (w : World) (hT : TAt w F p bs) (hO : TOk bs) (hr : U64 r) :
    Calls Try.prog 23 #[.pointer (some ⟨p, 0, none⟩), .int .u64 r] w fun e w' => e = .returned (.bool (idx bs r).isSome) ∧ w' = w := by
  obtain ⟨mb, g, c, c0, c1, hM, hc, hcm, hcell⟩ := hT.open hO.pos
  have hlook := hM.look r hr
  generalize (idx bs r).isSome = B at hlook ⊢
  generalize (((idx bs r).getD 0 : Nat) : Int) = I at hlook
  clear hM hcell hT
  go_enter Try.func23, Try.ntmps23
  go_wp2
  go_ret
  exact ⟨rfl, rfl⟩
theorem len_any (F : Nat → Prop) (p : Nat) (bs : List TBlk) (w : World) (hT : TAt w F p bs) (hO : TOk bs) :
    Calls Try.prog 24 #[.pointer (some ⟨p, 0, none⟩)] w fun e w' => e = .returned (.int .i64 (bs.length : Int)) ∧ w' = w := by
  obtain ⟨mb, g, c, c0, c1, hM, hc, hcm, hcell⟩ := hT.open hO.pos
  clear hM hcell hT
  go_enter Try.func24, Try.ntmps24
  go_wp2
  go_ret
  exact ⟨rfl, rfl⟩
theorem first_any (F : Nat → Prop) (p : Nat) (bs : List TBlk) (w : World) (hT : TAt w F p bs) (hO : TOk bs) :
    Calls Try.prog 20 #[.pointer (some ⟨p, 0, none⟩)] w fun e w' => e = .returned (.int .u64 (tb bs 0).root) ∧ w' = w := by
  obtain ⟨mb, g, c, c0, c1, hM, hc, hcm, hcell⟩ := hT.open hO.pos
  have h0 := (hcell 0 hO.pos).1
  have hp : ((bs.length : Int) == 0) = false := by have := hO.pos; simp; intro e; rw [e] at this; simp at this
  have hl : (0 : Int) < (bs.length : Int) := by have := hO.pos; omega
  have hne : ¬ bs = [] := fun e => by have := hO.pos; rw [e] at this; simp at this
  have hl' := hO.pos
  generalize (tb bs 0).root = R at h0 ⊢
  rw [Nat.zero_mul] at h0
  generalize bs.length = n at *
  clear hM hcell hT
  go_enter Try.func20, Try.ntmps20
  go_wp2
  go_ret
  exact ⟨rfl, rfl⟩

/-- down the row from parent to parent, to a place or below it -/
def climb (bs : List TBlk) (base t : Nat) : Nat := if h : base < t ∧ (tb bs t).par < t then climb bs base (tb bs t).par else t
termination_by t
decreasing_by exact h.2
theorem climb_go {bs : List TBlk} {base t : Nat} (h : base < t) (h2 : (tb bs t).par < t) : climb bs base t = climb bs base (tb bs t).par := by rw [climb, dif_pos ⟨h, h2⟩]
theorem climb_stop {bs : List TBlk} {base t : Nat} (h : ¬ base < t) : climb bs base t = t := by rw [climb, dif_neg (fun e => h e.1)]
/-- the last one that is not later -/
def late (bs : List TBlk) (slot : Int) (t : Nat) : Nat := if h : 0 < t ∧ slot < (tb bs t).slot ∧ (tb bs t).par < t then late bs slot (tb bs t).par else t
termination_by t
decreasing_by exact h.2.2

set_option maxRecDepth 100000 in
set_option maxHeartbeats 400000 in
theorem stands_any (F : Nat → Prop) (p : Nat) (bs : List TBlk) (t b : Nat) (w : World) (hT : TAt w F p bs) (hO : TOk bs) (ht : t < bs.length) (hb : b < bs.length) :
    Calls Try.prog 27 #[.pointer (some ⟨p, 0, none⟩), .int .i64 (t : Int), .int .i64 (b : Int)] w fun e w' => e = .returned (.bool (decide (climb bs b t = b))) ∧ w' = w := by
  obtain ⟨mb, g, c, c0, c1, hM, hc, hcm, hcell⟩ := hT.open hO.pos
  have hlim := hO.lim
  have HO := hide hO
  have HC := hide hcell
  obtain ⟨n, hn⟩ : ∃ n, Hid (bs.length = n) := ⟨_, rfl⟩
  rw [hn.out] at c0 ht hb hlim
  clear hM hcell hT hc hO
  go_enter Try.func27, Try.ntmps27
  go_wp2
  go_loop [1] (fun v => ∃ s : Nat, v = .int .i64 (s : Int) ∧ s < n ∧ Hid (climb bs b s = climb bs b t)) (fun v => (intOf v).toNat)
  case atStart => exact ⟨t, rfl, ht, hide rfl⟩
  case round =>
    obtain ⟨s, rfl, hs, hI⟩ := hrel
    by_cases hlt : b < s
    · have hp : (tb bs s).par < s := HO.out.par s (by omega) (by rw [hn.out]; exact hs)
      have hI2 : Hid (climb bs b (tb bs s).par = climb bs b t) := by show _ = _; rw [← climb_go hlt hp]; exact hI.out
      obtain ⟨_, h1, _⟩ := HC.out s (by rw [hn.out]; exact hs)
      have h1i : (s : Int) < (n : Int) := by omega
      obtain ⟨q, hq⟩ : ∃ q, Hid ((tb bs s).par = q) := ⟨_, rfl⟩
      rw [hq.out] at h1 hp hI2
      clear hI
      go_wp2
      go_round
      case rel => exact ⟨q, rfl, by omega, hI2⟩
      case measure => simp [intOf]; omega
    · have e : climb bs b t = s := by rw [← hI.out, climb_stop hlt]
      rw [e]
      have hsb : ((s : Int) == (b : Int)) = decide (s = b) := by
        by_cases h : s = b
        · subst h; simp
        · simp [h]; omega
      clear HC
      go_wp2
      go_ret
      exact ⟨ret_bool (by simp), rfl⟩

/-- what At tells -/
def atR (bs : List TBlk) (r s : Int) : Int := match idx bs r with
  | none => 0
  | some i => (tb bs (late bs s i)).root
theorem atR_some {bs : List TBlk} {r s : Int} {i : Nat} (h : idx bs r = some i) : atR bs r s = (tb bs (late bs s i)).root := by unfold atR; rw [h]
theorem atR_none {bs : List TBlk} {r s : Int} (h : idx bs r = none) : atR bs r s = 0 := by unfold atR; rw [h]
/-- does one stand on another? -/
def belowB (bs : List TBlk) (r o : Int) : Bool := match idx bs r, idx bs o with
  | some t, some b => decide (climb bs b t = b)
  | _, _ => false
theorem below_any (F : Nat → Prop) (p : Nat) (bs : List TBlk) (r o : Int) (w : World) (hT : TAt w F p bs) (hO : TOk bs) (hr : U64 r) (ho : U64 o) :
    Calls Try.prog 19 #[.pointer (some ⟨p, 0, none⟩), .int .u64 r, .int .u64 o] w fun e w' => e = .returned (.bool (belowB bs r o)) ∧ w' = w := by
  obtain ⟨mb, g, c, c0, c1, hM, hc, hcm, hcell⟩ := hT.open hO.pos
  have hlook := hM.look r hr
  have hlook2 := hM.look o ho
  unfold belowB
  cases hx : idx bs r with
  | none =>
    rw [hx] at hlook
    simp only [Option.getD_none, Option.isSome_none] at hlook
    generalize (idx bs o).isSome = B at hlook2
    generalize (((idx bs o).getD 0 : Nat) : Int) = I at hlook2
    clear hM hcell hT hx hcm hc
    go_enter Try.func19, Try.ntmps19
    go_wp2
    go_ret
    exact ⟨rfl, rfl⟩
  | some t =>
    rw [hx] at hlook
    simp only [Option.getD_some, Option.isSome_some] at hlook
    cases hy : idx bs o with
    | none =>
      rw [hy] at hlook2
      simp only [Option.getD_none, Option.isSome_none] at hlook2
      clear hM hcell hT hx hy hcm hc
      go_enter Try.func19, Try.ntmps19
      go_wp2
      go_ret
      exact ⟨rfl, rfl⟩
    | some b =>
      rw [hy] at hlook2
      simp only [Option.getD_some, Option.isSome_some] at hlook2
      have H := hide (stands_any F p bs t b w hT hO (idx_some hx).1 (idx_some hy).1)
      show Calls _ _ _ _ (fun e w' => e = .returned (.bool (decide (climb bs b t = b))) ∧ w' = w)
      generalize decide (climb bs b t = b) = B at H ⊢
      clear hM hcell hT hx hy hcm hc
      go_enter Try.func19, Try.ntmps19
      go_wp2_with (go_at_call 27; refine H.out.mono ?_; rintro e w' ⟨rfl, hw⟩; obtain rfl : _ = w' := hw.symm)
      go_ret
      exact ⟨rfl, rfl⟩
end Go.Proofs.Ytfkabmgbcdoijaa
