/- Contract of tree.Of. -/
import Derived.Test.YtfkabmgbcdoijaaTRead

namespace Go.Proofs.Ytfkabmgbcdoijaa

open Go.ChangeShapes Go.WideShapes Go.ChangeAt Go.RowKit

set_option linter.unusedVariables false

/-- a tree that a call has made -/
def Made (w : World) (bs : List TBlk) (e : Ending) (w' : World) : Prop := ∃ p, e = .returned (.pointer (some ⟨p, 0, none⟩)) ∧ TAt w' (fun k => w.heap.size ≤ k) p bs ∧ Below w.heap.size w w'
def tOne (r s : Int) : List TBlk := [⟨r, 0, s, 0, []⟩]
theorem tOne_ok {r s : Int} (hr : U64 r) (hs : I64 s) : TOk (tOne r s) := by
  have e : ∀ i, i < (tOne r s).length → i = 0 := fun i hi => by simp [tOne] at hi; exact hi
  refine ⟨by simp [tOne], by simp [tOne], fun i h1 h2 => by have := e i h2; omega, rfl, fun i j h1 h2 _ => by rw [e i h1, e j h2], fun i hi => by rw [e i hi]; exact hr, fun i hi => by rw [e i hi]; exact hs, fun i hi => by rw [e i hi]; exact Nat.zero_le _, fun i hi => by rw [e i hi]; simp [tOne, tb], rfl, fun i h0 hi => by have := e i hi; omega, fun i hi => by rw [e i hi]; simp [tOne, tb], fun i hi x => by
    rw [e i hi]
    constructor
    · intro h; simp [tOne, tb] at h
    · rintro ⟨j, h0, h1, _⟩; have := e j h1; omega⟩

set_option maxRecDepth 100000 in
set_option maxHeartbeats 400000 in
theorem of_any (r s : Int) (w : World) (hr : U64 r) : Calls Try.prog 15 #[.int .u64 r, .int .i64 s] w (Made w (tOne r s)) := by
  have hmm := @run_makeMap Try.prog
  obtain ⟨w1, hw1⟩ : ∃ x, w.alloc (.cells #[.int .u64 r, .int .i64 0, .int .i64 s, .int .i64 0, .slice none 0 0] 62) = x := ⟨_, rfl⟩
  obtain ⟨w3, hrun, hM, hg⟩ := (MapP.new w1).put r 0 hr (by omega) (by unfold maxLen; omega)
  have h1 : OAt w1 w.heap.size (.cells #[.int .u64 r, .int .i64 0, .int .i64 s, .int .i64 0, .slice none 0 0] 62) := by rw [← hw1]; exact OAt.new _ _
  have hs1 : w1.heap.size = w.heap.size + 1 := by rw [← hw1]; simp
  have h3 : OAt w3 w.heap.size (.cells #[.int .u64 r, .int .i64 0, .int .i64 s, .int .i64 0, .slice none 0 0] 62) := (h1.alloc _).turn (.grown hg) (by simp; omega)
  have hs3 : w.heap.size + 1 + 1 ≤ w3.heap.size := by have := hg.size; simp at this; omega
  have HB : Hid (Below w.heap.size w w3) := by
    have a1 := (Below.refl w.heap.size w).alloc (Nat.le_refl _) (.cells #[.int .u64 r, .int .i64 0, .int .i64 s, .int .i64 0, .slice none 0 0] 62)
    rw [hw1] at a1
    exact (a1.alloc (by omega) (.map #[] 0)).grown hg (by simp; omega) (fun k hk => by cases hk; omega)
  have HM := hide hM
  have H3 := hide h3
  have Hs1 := hide hs1
  have Hs3 := hide hs3
  rw [← hw1] at hrun
  simp only [World.size_alloc] at hrun
  rw [show ((0 : Nat) : Int) = 0 from rfl] at hrun
  rw [hs1] at HM
  clear hM h3 h1 hg hs1 hs3 hw1
  go_enter Try.func15, Try.ntmps15
  go_wp2
  go_ret
  refine ⟨w3.heap.size, rfl, ⟨w.heap.size + 1, .slice (some ⟨w.heap.size, 0, none⟩) 1 1, [.slice none 0 0], OAt.new _ _, ?_, ?_, ?_, ?_, ?_⟩, HB.out.alloc HB.out.size _⟩
  · have h4 := H3.out.alloc (.cells #[.slice (some ⟨w.heap.size, 0, none⟩) 1 1, .map (some (w.heap.size + 1))] 59)
    refine ⟨rfl, ⟨[tcells ⟨r, 0, s, 0, []⟩ (.slice none 0 0)], ⟨rfl, fun i h h' => ?_⟩, ?_⟩, fun i hi => ?_, fun i j g h1 h2 => ?_⟩
    · have : i = 0 := by simp at h; exact h
      subst this
      exact ⟨rfl, tR_one _ (⟨r, 0, s, 0, []⟩, .slice none 0 0) ⟨rfl, rfl⟩, ⟨rfl, rfl⟩⟩
    · exact ⟨rfl, .inr ⟨w.heap.size, 1, _, rfl, Nat.zero_le _, h4.at_, Nat.le_refl _, by unfold maxLen; omega, rfl, rfl⟩⟩
    · have : i = 0 := by simp [tOne] at hi; exact hi
      subst this
      exact World.ownsRow_nil _ _ _ _
    · cases i with
      | zero => simp [kb, Value.ownBlock] at h1
      | succ i => rw [kb_none (by simp)] at h1; cases h1
  · refine ((HM.out.of (w' := w3.alloc _) (Below.heap_alloc _ _ _ HM.out.lt)).congr fun x => ?_)
    by_cases e : x = r
    · subst e; simp [idx, tOne, List.findIdx?_cons]
    · rw [if_neg e]; simp [idx, tOne, List.findIdx?_cons]; exact fun h => e h.symm
  · have := Hs3.out; omega
  · omega
  · intro k hk
    rcases hk with hk | ⟨i, hk⟩
    · simp [Value.ownBlock] at hk; omega
    · cases i with
      | zero => simp [kb, Value.ownBlock] at hk
      | succ i => rw [kb_none (by simp)] at hk; cases hk
end Go.Proofs.Ytfkabmgbcdoijaa
