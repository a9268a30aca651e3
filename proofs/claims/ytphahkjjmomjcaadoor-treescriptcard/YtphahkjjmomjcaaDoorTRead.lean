/- Contracts of what only reads a tree: Has, Len, First, stands, Below, At, Get. -/
import Derived.Test.YtphahkjjmomjcaaDoorTRep

import Derived.WalkKit

import Derived.ProofKit

import Derived.Deep.QuietTactic

import Derived.BigQuiet

import Derived.Deep.CutRange

namespace Go.Proofs.YtphahkjjmomjcaaDoor

open Go.ChangeShapes Go.WideShapes Go.ChangeAt Go.RowKit

set_option linter.unusedVariables false

def tz : TBlk := ⟨0, 0, 0, 0, []⟩
/-- the block at a place -/
def tb (bs : List TBlk) (i : Nat) : TBlk := bs.getD i tz
theorem tb_lt {bs : List TBlk} {i : Nat} (h : i < bs.length) : tb bs i = bs[i] := by simp [tb, List.getD_eq_getElem?_getD, List.getElem?_eq_getElem h]
def U64 (r : Int) : Prop := 0 ≤ r ∧ r ≤ 18446744073709551615
def I64 (r : Int) : Prop := -9223372036854775808 ≤ r ∧ r ≤ 9223372036854775807
/-- a tree that may be: each block behind its parent -/
structure TOk (bs : List TBlk) : Prop where
  pos : 0 < bs.length
  lim : bs.length ≤ 1024
  par : ∀ i, 0 < i → i < bs.length → (tb bs i).par < i
  par0 : (tb bs 0).par = 0
  one : ∀ i j, i < bs.length → j < bs.length → (tb bs i).root = (tb bs j).root → i = j
  root : ∀ i, i < bs.length → U64 (tb bs i).root
  slot : ∀ i, i < bs.length → I64 (tb bs i).slot
  high : ∀ i, i < bs.length → (tb bs i).high ≤ i
  kids : ∀ i, i < bs.length → (tb bs i).kids.length ≤ bs.length
  high0 : (tb bs 0).high = 0
  step : ∀ i, 0 < i → i < bs.length → (tb bs i).high = (tb bs (tb bs i).par).high + 1
  kr : ∀ i, i < bs.length → (tb bs i).kids.Pairwise (· < ·)
  km : ∀ i, i < bs.length → ∀ x, x ∈ (tb bs i).kids ↔ ∃ j, 0 < j ∧ j < bs.length ∧ (tb bs j).par = i ∧ (tb bs j).root = x
theorem TOk.par_le {bs : List TBlk} (h : TOk bs) {i : Nat} (hi : i < bs.length) : (tb bs i).par < bs.length := by
  by_cases h0 : 0 < i
  · have := h.par i h0 hi; omega
  · have : i = 0 := by omega
    subst this
    rw [h.par0]; exact hi
theorem idx_some {bs : List TBlk} {r : Int} {i : Nat} (h : idx bs r = some i) : i < bs.length ∧ (tb bs i).root = r := by
  unfold idx at h
  obtain ⟨hlt, h1, _⟩ := List.findIdx?_eq_some_iff_getElem.1 h
  refine ⟨hlt, ?_⟩
  rw [tb_lt hlt]
  simpa using h1
theorem idx_none {bs : List TBlk} {r : Int} (h : idx bs r = none) (i : Nat) (hi : i < bs.length) : (tb bs i).root ≠ r := by
  unfold idx at h
  rw [List.findIdx?_eq_none_iff] at h
  have := h bs[i] (List.getElem_mem hi)
  rw [tb_lt hi]
  simpa using this
theorem idx_of {bs : List TBlk} (h : TOk bs) {i : Nat} (hi : i < bs.length) : idx bs (tb bs i).root = some i := by
  cases hx : idx bs (tb bs i).root with
  | none => exact absurd rfl (idx_none hx i hi)
  | some j =>
    obtain ⟨h1, h2⟩ := idx_some hx
    rw [h.one j i h1 hi h2]

/-- what a tree's struct and rows are -/
theorem TAt.open {w : World} {F : Nat → Prop} {p : Nat} {bs : List TBlk} (h : TAt w F p bs) (h0 : 0 < bs.length) :
    ∃ mb g c, w.cell? ⟨p, 0, none⟩ = some (.slice (some ⟨g, 0, none⟩) bs.length c) ∧ w.cell? ⟨p, 1, none⟩ = some (.map (some mb)) ∧ MapP w mb bs.length (idx bs) ∧ bs.length ≤ c ∧ c ≤ maxLen ∧
      ∀ i, i < bs.length → w.cell? ⟨g, i * 5, none⟩ = some (.int .u64 (tb bs i).root) ∧ w.cell? ⟨g, i * 5 + 1, none⟩ = some (.int .i64 ((tb bs i).par : Int)) ∧ w.cell? ⟨g, i * 5 + 2, none⟩ = some (.int .i64 (tb bs i).slot) ∧ w.cell? ⟨g, i * 5 + 3, none⟩ = some (.int .i64 ((tb bs i).high : Int)) := by
  obtain ⟨mb, bv, ks, h1, h2, h3, h4, h5, h6⟩ := h
  obtain ⟨ao, c, rfl, hc, hcm, hcell⟩ := h2.cells
  obtain ⟨g, rfl, _, _⟩ := hcell 0 h0
  refine ⟨mb, g, c, h1.cell 0, h1.cell 1, h3, hc, hcm, fun i hi => ?_⟩
  obtain ⟨g', e, _, hx⟩ := hcell i hi
  cases e
  rw [tb_lt hi]
  exact ⟨hx 0 (by omega), hx 1 (by omega), hx 2 (by omega), hx 3 (by omega)⟩

theorem has_any (F : Nat → Prop) (p : Nat) (bs : List TBlk) (r : Int) (w : World) (hT : TAt w F p bs) (hO : TOk bs) (hr : U64 r) :
    Calls Tryd.prog 20 #[.pointer (some ⟨p, 0, none⟩), .int .u64 r] w fun e w' => e = .returned (.bool (idx bs r).isSome) ∧ w' = w := by
  obtain ⟨mb, g, c, c0, c1, hM, hc, hcm, hcell⟩ := hT.open hO.pos
  have hlook := hM.look r hr
  generalize (idx bs r).isSome = B at hlook ⊢
  generalize (((idx bs r).getD 0 : Nat) : Int) = I at hlook
  clear hM hcell hT
  go_enter Tryd.func20, Tryd.ntmps20
  go_wp2
  go_ret
  exact ⟨rfl, rfl⟩
theorem len_any (F : Nat → Prop) (p : Nat) (bs : List TBlk) (w : World) (hT : TAt w F p bs) (hO : TOk bs) :
    Calls Tryd.prog 21 #[.pointer (some ⟨p, 0, none⟩)] w fun e w' => e = .returned (.int .i64 (bs.length : Int)) ∧ w' = w := by
  obtain ⟨mb, g, c, c0, c1, hM, hc, hcm, hcell⟩ := hT.open hO.pos
  clear hM hcell hT
  go_enter Tryd.func21, Tryd.ntmps21
  go_wp2
  go_ret
  exact ⟨rfl, rfl⟩
theorem first_any (F : Nat → Prop) (p : Nat) (bs : List TBlk) (w : World) (hT : TAt w F p bs) (hO : TOk bs) :
    Calls Tryd.prog 16 #[.pointer (some ⟨p, 0, none⟩)] w fun e w' => e = .returned (.int .u64 (tb bs 0).root) ∧ w' = w := by
  obtain ⟨mb, g, c, c0, c1, hM, hc, hcm, hcell⟩ := hT.open hO.pos
  have h0 := (hcell 0 hO.pos).1
  have hp : ((bs.length : Int) == 0) = false := by have := hO.pos; simp; intro e; rw [e] at this; simp at this
  have hl : (0 : Int) < (bs.length : Int) := by have := hO.pos; omega
  have hne : ¬ bs = [] := fun e => by have := hO.pos; rw [e] at this; simp at this
  have hl' := hO.pos
  generalize (tb bs 0).root = R at h0 ⊢
  rw [Nat.zero_mul] at h0
  generalize bs.length = n at *
  clear hM hcell hT
  go_enter Tryd.func16, Tryd.ntmps16
  go_wp2
  go_ret
  exact ⟨rfl, rfl⟩

/-- down the row from parent to parent, to a place or below it -/
def climb (bs : List TBlk) (base t : Nat) : Nat := if h : base < t ∧ (tb bs t).par < t then climb bs base (tb bs t).par else t
termination_by t
decreasing_by exact h.2
theorem climb_go {bs : List TBlk} {base t : Nat} (h : base < t) (h2 : (tb bs t).par < t) : climb bs base t = climb bs base (tb bs t).par := by rw [climb, dif_pos ⟨h, h2⟩]
theorem climb_stop {bs : List TBlk} {base t : Nat} (h : ¬ base < t) : climb bs base t = t := by rw [climb, dif_neg (fun e => h e.1)]
/-- the last one that is not later -/
def late (bs : List TBlk) (slot : Int) (t : Nat) : Nat := if h : 0 < t ∧ slot < (tb bs t).slot ∧ (tb bs t).par < t then late bs slot (tb bs t).par else t
termination_by t
decreasing_by exact h.2.2

set_option maxRecDepth 100000 in
set_option maxHeartbeats 400000 in
theorem stands_any (F : Nat → Prop) (p : Nat) (bs : List TBlk) (t b : Nat) (w : World) (hT : TAt w F p bs) (hO : TOk bs) (ht : t < bs.length) (hb : b < bs.length) :
    Calls Tryd.prog 17 #[.pointer (some ⟨p, 0, none⟩), .int .i64 (t : Int), .int .i64 (b : Int)] w fun e w' => e = .returned (.bool (decide (climb bs b t = b))) ∧ w' = w := by
  obtain ⟨mb, g, c, c0, c1, hM, hc, hcm, hcell⟩ := hT.open hO.pos
  have hlim := hO.lim
  have HO := hide hO
  have HC := hide hcell
  obtain ⟨n, hn⟩ : ∃ n, Hid (bs.length = n) := ⟨_, rfl⟩
  rw [hn.out] at c0 ht hb hlim
  clear hM hcell hT hc hO
  go_enter Tryd.func17, Tryd.ntmps17
  go_wp2
  go_loop [1] (fun v => ∃ s : Nat, v = .int .i64 (s : Int) ∧ s < n ∧ Hid (climb bs b s = climb bs b t)) (fun v => (intOf v).toNat)
  case atStart => exact ⟨t, rfl, ht, hide rfl⟩
  case round =>
    obtain ⟨s, rfl, hs, hI⟩ := hrel
    by_cases hlt : b < s
    · have hp : (tb bs s).par < s := HO.out.par s (by omega) (by rw [hn.out]; exact hs)
      have hI2 : Hid (climb bs b (tb bs s).par = climb bs b t) := by show _ = _; rw [← climb_go hlt hp]; exact hI.out
      obtain ⟨_, h1, _⟩ := HC.out s (by rw [hn.out]; exact hs)
      have h1i : (s : Int) < (n : Int) := by omega
      obtain ⟨q, hq⟩ : ∃ q, Hid ((tb bs s).par = q) := ⟨_, rfl⟩
      rw [hq.out] at h1 hp hI2
      clear hI
      go_wp2
      go_round
      case rel => exact ⟨q, rfl, by omega, hI2⟩
      case measure => simp [intOf]; omega
    · have e : climb bs b t = s := by rw [← hI.out, climb_stop hlt]
      rw [e]
      have hsb : ((s : Int) == (b : Int)) = decide (s = b) := by
        by_cases h : s = b
        · subst h; simp
        · simp [h]; omega
      clear HC
      go_wp2
      go_ret
      exact ⟨ret_bool (by simp), rfl⟩

/-- what At tells -/
def atR (bs : List TBlk) (r s : Int) : Int := match idx bs r with
  | none => 0
  | some i => (tb bs (late bs s i)).root
theorem atR_some {bs : List TBlk} {r s : Int} {i : Nat} (h : idx bs r = some i) : atR bs r s = (tb bs (late bs s i)).root := by unfold atR; rw [h]
theorem atR_none {bs : List TBlk} {r s : Int} (h : idx bs r = none) : atR bs r s = 0 := by unfold atR; rw [h]
set_option maxRecDepth 100000 in
set_option maxHeartbeats 400000 in
theorem at_any (F : Nat → Prop) (p : Nat) (bs : List TBlk) (r s : Int) (w : World) (hT : TAt w F p bs) (hO : TOk bs) (hr : U64 r) :
    Calls Tryd.prog 14 #[.pointer (some ⟨p, 0, none⟩), .int .u64 r, .int .i64 s] w fun e w' => e = .returned (.int .u64 (atR bs r s)) ∧ w' = w := by
  obtain ⟨mb, g, c, c0, c1, hM, hc, hcm, hcell⟩ := hT.open hO.pos
  have hlim := hO.lim
  have HO := hide hO
  have HC := hide hcell
  have hlook := hM.look r hr
  obtain ⟨n, hn⟩ : ∃ n, Hid (bs.length = n) := ⟨_, rfl⟩
  rw [hn.out] at c0 hlim
  cases hx : idx bs r with
  | none =>
    rw [atR_none hx]
    rw [hx] at hlook
    simp only [Option.getD_none, Option.isSome_none] at hlook
    clear hM hcell hT hc hO hx
    go_enter Tryd.func14, Tryd.ntmps14
    go_wp2
    go_ret
    exact ⟨rfl, rfl⟩
  | some t =>
    rw [hx] at hlook
    simp only [Option.getD_some, Option.isSome_some] at hlook
    have ht := (idx_some hx).1
    rw [hn.out] at ht
    obtain ⟨X, hX⟩ : ∃ z, Hid ((tb bs (late bs s t)).root = z) := ⟨_, rfl⟩
    rw [atR_some hx, hX.out]
    clear hM hcell hT hc hO hx
    go_enter Tryd.func14, Tryd.ntmps14
    go_wp2
    go_loop [7] (fun v => ∃ i : Nat, v = .int .i64 (i : Int) ∧ i < n ∧ Hid (late bs s i = late bs s t)) (fun v => (intOf v).toNat)
    case atStart => exact ⟨t, rfl, ht, hide rfl⟩
    case round =>
      obtain ⟨i, rfl, hi, hI⟩ := hrel
      obtain ⟨h0, h1, h2, _⟩ := HC.out i (by rw [hn.out]; exact hi)
      have h1i : (i : Int) < (n : Int) := by omega
      obtain ⟨q, hq⟩ : ∃ q, Hid ((tb bs i).par = q) := ⟨_, rfl⟩
      obtain ⟨z, hz⟩ : ∃ z, Hid ((tb bs i).slot = z) := ⟨_, rfl⟩
      obtain ⟨R, hR⟩ : ∃ z, Hid ((tb bs i).root = z) := ⟨_, rfl⟩
      by_cases hgo : 0 < i ∧ s < (tb bs i).slot
      · have hp : (tb bs i).par < i := HO.out.par i hgo.1 (by rw [hn.out]; exact hi)
        have hI2 : Hid (late bs s (tb bs i).par = late bs s t) := by
          show _ = _
          rw [← hI.out]
          conv => rhs; rw [late, dif_pos ⟨hgo.1, hgo.2, hp⟩]
        obtain ⟨hi0, hsl⟩ := hgo
        have hi0' : (0 : Int) < (i : Int) := by omega
        rw [hq.out] at h1 hp hI2
        rw [hz.out] at h2 hsl
        clear hI h0
        go_wp2
        go_round
        case rel => exact ⟨q, rfl, by omega, hI2⟩
        case measure => simp [intOf]; omega
      · have e : late bs s t = i := by
          rw [← hI.out, late, dif_neg (fun h => hgo ⟨h.1, h.2.1⟩)]
        have hXR : Hid (R = X) := by show R = X; rw [← hX.out, ← hR.out, e]
        rw [hz.out] at h2 hgo
        rw [hR.out] at h0
        clear HC hI e h1
        by_cases hi0 : 0 < i
        · have hi0' : (0 : Int) < (i : Int) := by omega
          have hsl : ¬ s < z := fun h => hgo ⟨hi0, h⟩
          clear hgo
          go_wp2
          go_ret
          exact ⟨ret_int hXR.out, rfl⟩
        · have : i = 0 := by omega
          subst this
          rw [Nat.zero_mul] at h0
          clear hgo h2
          go_wp2
          go_ret
          exact ⟨ret_int hXR.out, rfl⟩

/-- does one stand on another? -/
def belowB (bs : List TBlk) (r o : Int) : Bool := match idx bs r, idx bs o with
  | some t, some b => decide (climb bs b t = b)
  | _, _ => false
theorem below_any (F : Nat → Prop) (p : Nat) (bs : List TBlk) (r o : Int) (w : World) (hT : TAt w F p bs) (hO : TOk bs) (hr : U64 r) (ho : U64 o) :
    Calls Tryd.prog 13 #[.pointer (some ⟨p, 0, none⟩), .int .u64 r, .int .u64 o] w fun e w' => e = .returned (.bool (belowB bs r o)) ∧ w' = w := by
  obtain ⟨mb, g, c, c0, c1, hM, hc, hcm, hcell⟩ := hT.open hO.pos
  have hlook := hM.look r hr
  have hlook2 := hM.look o ho
  unfold belowB
  cases hx : idx bs r with
  | none =>
    rw [hx] at hlook
    simp only [Option.getD_none, Option.isSome_none] at hlook
    generalize (idx bs o).isSome = B at hlook2
    generalize (((idx bs o).getD 0 : Nat) : Int) = I at hlook2
    clear hM hcell hT hx hcm hc
    go_enter Tryd.func13, Tryd.ntmps13
    go_wp2
    go_ret
    exact ⟨rfl, rfl⟩
  | some t =>
    rw [hx] at hlook
    simp only [Option.getD_some, Option.isSome_some] at hlook
    cases hy : idx bs o with
    | none =>
      rw [hy] at hlook2
      simp only [Option.getD_none, Option.isSome_none] at hlook2
      clear hM hcell hT hx hy hcm hc
      go_enter Tryd.func13, Tryd.ntmps13
      go_wp2
      go_ret
      exact ⟨rfl, rfl⟩
    | some b =>
      rw [hy] at hlook2
      simp only [Option.getD_some, Option.isSome_some] at hlook2
      have H := hide (stands_any F p bs t b w hT hO (idx_some hx).1 (idx_some hy).1)
      show Calls _ _ _ _ (fun e w' => e = .returned (.bool (decide (climb bs b t = b))) ∧ w' = w)
      generalize decide (climb bs b t = b) = B at H ⊢
      clear hM hcell hT hx hy hcm hc
      go_enter Tryd.func13, Tryd.ntmps13
      go_wp2_with (go_at_call 17; refine H.out.mono ?_; rintro e w' ⟨rfl, hw⟩; obtain rfl : _ = w' := hw.symm)
      go_ret
      exact ⟨rfl, rfl⟩
end Go.Proofs.YtphahkjjmomjcaaDoor
