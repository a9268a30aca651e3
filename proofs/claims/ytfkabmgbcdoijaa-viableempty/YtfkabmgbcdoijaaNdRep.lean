/- Rows of nodes: the laws' own model of a tree, in memory; contracts of Find and Below. -/
import Derived.Test.YtfkabmgbcdoijaaTRead

import Derived.Test.YtfkabmgbcdoijaaMid

import Derived.Test.YtfkabmgbcdoijaaStructRows

import Derived.Maps.RangeWalk

namespace Go.Proofs.Ytfkabmgbcdoijaa

open Go.ChangeShapes Go.WideShapes Go.ChangeAt Go.RowKit

set_option linter.unusedVariables false

structure Nod where
  root : Int
  par : Int
  slot : Int
def nC (x : Nod) : List Value := [.int .u64 x.root, .int .u64 x.par, .int .i64 x.slot]
def nR (cs : List Value) (x : Nod) : Prop := cs = nC x
theorem nR_one : ∀ cs x, nR cs x → ∀ u ∈ cs, u.oneCell' = true := by
  rintro cs x rfl u hu
  simp [nC] at hu
  rcases hu with rfl | rfl | rfl <;> rfl
def nz : Nod := ⟨0, 0, 0⟩
/-- the node at a place -/
def nd (ms : List Nod) (i : Nat) : Nod := ms.getD i nz
theorem nd_lt {ms : List Nod} {i : Nat} (h : i < ms.length) : nd ms i = ms[i] := by simp [nd, List.getD_eq_getElem?_getD, List.getElem?_eq_getElem h]
theorem nd_snoc (ms : List Nod) (x : Nod) (i : Nat) : nd (ms ++ [x]) i = if i < ms.length then nd ms i else if i = ms.length then x else nz := by
  by_cases h : i < ms.length
  · rw [if_pos h]
    simp [nd, List.getD_eq_getElem?_getD, List.getElem?_append_left h]
  · rw [if_neg h]
    by_cases e : i = ms.length
    · subst e; simp [nd, List.getD_eq_getElem?_getD]
    · rw [if_neg e]
      have : (ms ++ [x])[i]? = none := List.getElem?_eq_none (by simp; omega)
      simp [nd, List.getD_eq_getElem?_getD, this]
/-- the row is there, to be read -/
def NRow (w : World) (a : Option Addr) (l : Nat) (ms : List Nod) : Prop := ms.length = l ∧ (0 < l → ∃ g off, a = some ⟨g, off, none⟩ ∧ g < w.heap.size ∧ ∀ i, i < l → ∀ j, j < 3 → w.cell? ⟨g, off + i * 3 + j, none⟩ = (nC (nd ms i))[j]?)
theorem NRow.below {w w' : World} {a : Option Addr} {l : Nat} {ms : List Nod} (h : NRow w a l ms) (hb : Below w.heap.size w w') : NRow w' a l ms := ⟨h.1, fun hl => by
  obtain ⟨g, off, e, hlt, hc⟩ := h.2 hl
  exact ⟨g, off, e, Nat.lt_of_lt_of_le hlt hb.size, fun i hi j hj => (hb.cell (p := ⟨g, off + i * 3 + j, none⟩) hlt).trans (hc i hi j hj)⟩⟩
theorem NRow.alloc {w : World} {a : Option Addr} {l : Nat} {ms : List Nod} (h : NRow w a l ms) (o : Obj) : NRow (w.alloc o) a l ms := h.below (below_alloc _ _)
theorem NRow.of {w : World} {base : Nat} {v : Value} {ms : List Nod} (h : OwnRows nR 39 3 base w v ms) : ∃ a c, v = .slice a ms.length c ∧ NRow w a ms.length ms := by
  obtain ⟨a, c, rfl, hr⟩ := h.rows (by decide)
  refine ⟨a, c, rfl, rfl, fun hl => ?_⟩
  obtain ⟨g, off, cs0, e, hlt, _⟩ := hr.row 0 hl
  refine ⟨g, off, e, hlt, fun i hi j hj => ?_⟩
  obtain ⟨g', off', cs, e', _, hl', hc, hR⟩ := hr.row i hi
  rw [e] at e'
  cases e'
  rw [nd_lt hi, ← hR, Nat.add_assoc]
  exact hc j hj
/-- a node is loaded, and laid into a new variable -/
theorem node_load {w : World} {b o : Nat} {x : Nod} (h : ∀ j, j < 3 → w.cell? ⟨b, o + j, none⟩ = (nC x)[j]?) :
    (Instr.loadAt 39 (.pointer (some ⟨b, o, none⟩))).run Try.prog w = .ok (.agg #[.int .u64 x.root, .int .u64 x.par, .int .i64 x.slot]) w :=
  load_mid (n := 3) (cs := nC x) Try.underlying39 (by kernel_rfl) rfl h
theorem node_store (w : World) (x : Nod) : (Instr.storeAt 39 (.pointer (some ⟨w.heap.size, 0, none⟩)) (.agg #[.int .u64 x.root, .int .u64 x.par, .int .i64 x.slot])).run Try.prog (w.alloc (.cells #[.int .u64 0, .int .u64 0, .int .i64 0] 39)) = .ok () (w.alloc (.cells #[.int .u64 x.root, .int .u64 x.par, .int .i64 x.slot] 39)) :=
  store_new (n := 3) (cs := nC x) (by kernel_rfl) rfl rfl (nR_one _ x rfl) rfl

/-- where a root stands; -1: nowhere -/
def fnd (ms : List Nod) (r : Int) : Int := match ms.findIdx? (fun x => x.root == r) with
  | some i => (i : Int)
  | none => -1
theorem fnd_hit {ms : List Nod} {r : Int} {i : Nat} (hi : i < ms.length) (h : (nd ms i).root = r) (hn : ∀ j, j < i → (nd ms j).root ≠ r) : fnd ms r = (i : Int) := by
  have : ms.findIdx? (fun x => x.root == r) = some i := by
    rw [List.findIdx?_eq_some_iff_getElem]
    refine ⟨hi, by rw [← nd_lt hi]; simpa using h, fun j hj => ?_⟩
    have := hn j hj
    rw [nd_lt (by omega)] at this
    simpa using this
  unfold fnd
  rw [this]
theorem fnd_miss {ms : List Nod} {r : Int} (hn : ∀ j, j < ms.length → (nd ms j).root ≠ r) : fnd ms r = -1 := by
  have : ms.findIdx? (fun x => x.root == r) = none := by
    rw [List.findIdx?_eq_none_iff]
    intro x hx
    obtain ⟨j, hj, rfl⟩ := List.getElem_of_mem hx
    have := hn j hj
    rw [nd_lt hj] at this
    simpa using this
  unfold fnd
  rw [this]

set_option maxRecDepth 100000 in
set_option maxHeartbeats 1000000 in
theorem find_any (ms : List Nod) (a : Option Addr) (l c : Nat) (r : Int) (w : World) (hN : NRow w a l ms) (hl : l ≤ 4096) :
    Calls Try.prog 28 #[.slice a l c, .int .u64 r] w fun e w' => e = .returned (.int .i64 (fnd ms r)) ∧ Below w.heap.size w w' := by
  have HN := hide hN
  have hml := hN.1
  clear hN
  go_enter Try.func28, Try.ntmps28
  go_wp2
  go_loopw [9] (fun v wr => ∃ i : Nat, v = .int .i64 (i : Int) ∧ i ≤ l ∧ Hid ((∀ j, j < i → (nd ms j).root ≠ r) ∧ Below w.heap.size w wr)) (fun v _ => l - (intOf v).toNat)
  case atStart => exact ⟨0, rfl, Nat.zero_le _, hide ⟨fun j hj => by omega, Below.refl _ _⟩⟩
  case round =>
    obtain ⟨i, rfl, hil, hI⟩ := hrel
    obtain ⟨hne, hb⟩ := hI.out
    have HE := hide hne
    have HB := hide hb
    clear hI hne hb
    by_cases hlt : i < l
    · obtain ⟨g, off, rfl, hgl, hc⟩ := (HN.out.below HB.out).2 (by omega)
      have h4 := hc i hlt
      obtain ⟨x, hx⟩ : ∃ x, Hid (nd ms i = x) := ⟨_, rfl⟩
      rw [hx.out] at h4
      have LD := hide (node_load h4)
      have ST := hide (node_store wr x)
      have HN1 := hide (OAt.new wr (.cells #[.int .u64 x.root, .int .u64 x.par, .int .i64 x.slot] 39))
      replace HB := hide (HB.out.alloc HB.out.size (.cells #[.int .u64 x.root, .int .u64 x.par, .int .i64 x.slot] 39))
      have hli : (i : Int) < (l : Int) := by omega
      clear hc h4
      go_upto_region 4 with (first
        | (refine wpList_load_at 39 (.tmp 12) rfl rfl (.pointer (some ⟨g, off + i * 3, none⟩)) rfl (.agg _) LD.out ?_)
        | (refine wpList_store_at 39 (.tmp 6) (.tmp 13) rfl rfl (.pointer (some ⟨wr.heap.size, 0, none⟩)) (.agg _) rfl rfl _ ST.out ?_))
      clear LD ST
      go_frame
      generalize wr.alloc (.cells #[.int .u64 x.root, .int .u64 x.par, .int .i64 x.slot] 39) = wa at HN1 HB ⊢
      have q0 := HN1.out.cell 0
      simp only [List.getElem?_toArray, List.getElem?_cons_zero] at q0
      generalize wr.heap.size = h at HN1 q0 ⊢
      by_cases he : x.root = r
      · have hR : Hid (fnd ms r = (i : Int)) := hide (fnd_hit (by omega) (by rw [hx.out]; exact he) HE.out)
        have heq : (x.root == r) = true := by simpa using he
        clear he HE
        go_wp2
        go_ret
        exact ⟨by rw [hR.out]; rfl, HB.out⟩
      · have hE2 : Hid (∀ j, j < i + 1 → (nd ms j).root ≠ r) := hide fun j hj => by
          by_cases e : j = i
          · subst e; rw [hx.out]; exact he
          · exact HE.out j (by omega)
        have heq : (x.root == r) = false := by simpa using he
        clear he HE
        go_wp2
        go_round
        case rel => exact ⟨i + 1, by go_num, by omega, hide ⟨hE2.out, HB.out⟩⟩
        case measure => simp [intOf]; omega
    · obtain rfl : i = l := by omega
      have hR : Hid (fnd ms r = -1) := hide (fnd_miss (by rw [hml]; exact HE.out))
      clear HE
      go_wp2
      go_ret
      exact ⟨by rw [hR.out]; rfl, HB.out⟩
end Go.Proofs.Ytfkabmgbcdoijaa
