/- Contract of wire's Encode: events' bytes, one behind the other; none, if one has none or they are too many. -/
import Derived.Test.YtdigpjfgjlhhjaaWLay4

import Derived.Test.YtdigpjfgjlhhjaaWBytes

import Derived.Test.YtdigpjfgjlhhjaaStructRows

import Derived.Test.YtdigpjfgjlhhjaaOctConv

namespace Go.Proofs.Ytdigpjfgjlhhjaa

open Go.ChangeShapes Go.WideShapes Go.ChangeAt Go.RowKit

set_option linter.unusedVariables false

/-- have events bytes? -/
def evsB (es : List Ev) : Bool := decide (es.length ≤ 4096) && es.all evB
/-- the bytes of events; none, if they have none -/
def encBs (es : List Ev) : List Int := if evsB es = true then bytesOf es else []
theorem encBs_no {es : List Ev} (h : evsB es = false) : encBs es = [] := by rw [encBs, h]; rfl
theorem encBs_yes {es : List Ev} (h : evsB es = true) : encBs es = bytesOf es := by rw [encBs, if_pos h]
theorem bytesOf_flat (es : List Ev) : bytesOf es = flat (es.flatMap evNs) := by
  induction es with
  | nil => rfl
  | cons e es ih =>
    show evBytes e ++ bytesOf es = _
    rw [ih, List.flatMap_cons, flat_append]
    rfl
theorem ev_more {ns : List Int} {e : Ev} {n n' : Nat} (hn : ns.length = n) (h : (ns ++ evNs e).length = n') (hok : evB e = true) : n' ≤ n + 200000 := by
  rw [← h, List.length_append]; have := evNs_len e hok; omega

set_option maxHeartbeats 2000000 in
theorem enc_any (es : List Ev) (a : Option Addr) (l c : Nat) (w : World) (h : RowsIn (EventC w) 28 w a l c es) :
    Calls Try.prog 12 #[.slice a l c] w fun r w' => ∃ ao n d, r = .returned (.tuple #[.slice ao n d, .bool (evsB es)]) ∧ n ≤ 8000000000 ∧ RowIn .u8 w' ao n d (encBs es) ∧ Below w.heap.size w w' := by
  have hlen := h.len
  have hcap := h.cap
  unfold maxLen at hcap
  have H := hide h
  clear h
  by_cases hmax : (l : Int) ≤ 4096
  case neg =>
    have hf : Hid (evsB es = false) := show _ = _ by rw [evsB, decide_eq_false (by omega)]; rfl
    go_enter Try.func12, Try.ntmps12
    go_wp2
    go_ret2
    refine ⟨none, 0, 0, by rw [hf.out]; rfl, by omega, ?_, Below.refl _ _⟩
    rw [encBs_no hf.out]
    exact RowIn.ofNil _ _
  have hf : Hid (evsB es = es.all evB) := show _ = _ by rw [evsB, decide_eq_true (by omega)]; rfl
  go_enter Try.func12, Try.ntmps12
  go_wp2
  go_loopw [4, 12] (fun x i wr => ∃ (k m d : Nat) (g : Option Addr), k ≤ l ∧ i = .int .i64 k ∧ x = .slice g m d ∧ m ≤ k * 200000 ∧
      Hid ((es.take k).all evB = true ∧ ((es.take k).flatMap evNs).length = m ∧ Lay w.heap.size w (.slice g m d) ((es.take k).flatMap evNs) wr)) (fun _ i _ => l - (intOf i).toNat)
  case atStart => exact ⟨0, 0, 0, none, Nat.zero_le _, rfl, rfl, by omega, hide ⟨rfl, rfl, Lay.refl (World.ownsRow_nil _ _ _ _)⟩⟩
  case round =>
    obtain ⟨k, m, d, g, hk, rfl, rfl, hm, hI⟩ := hrel
    have hsr := hI.out.2.2.bel.size
    by_cases hlt : k < l
    · obtain ⟨b, off, cs, rfl, hbs, hcl, hcc, hE⟩ := H.out.row k (by omega)
      have ha := all_snoc es evB k (by omega)
      have hno := all_no es evB k (by omega)
      have hfl := fm_snoc es evNs k (by omega)
      obtain ⟨e, hge⟩ : ∃ v, Hid (es[k] = v) := ⟨_, hide rfl⟩
      rw [hge.out] at hE ha hno hfl
      rw [hI.out.1, Bool.true_and] at ha
      have ld1 : (Instr.loadAt 38 (.pointer (some ⟨b, off + k * 28, none⟩))).run Try.prog wr = .ok (.agg cs.toArray) wr :=
        load_mid Try.underlying38 infoEv hcl fun j hj => by
          have := (hI.out.2.2.bel.cell (p := ⟨b, off + (k * 28 + j), none⟩) hbs).trans (hcc j hj)
          rwa [← Nat.add_assoc] at this
      have st1 : ∀ Z : Array Value, Z.size = 28 → (Instr.storeAt 38 (.pointer (some ⟨wr.heap.size, 0, none⟩)) (.agg cs.toArray)).run Try.prog (wr.alloc (.cells Z 38)) = .ok () (wr.alloc (.cells cs.toArray 38)) :=
        fun Z hZ => store_new infoEv hcl hZ hE.one.1 rfl
      have ld2 : (Instr.loadAt 38 (.pointer (some ⟨wr.heap.size, 0, none⟩))).run Try.prog (wr.alloc (.cells cs.toArray 38)) = .ok (.agg cs.toArray) (wr.alloc (.cells cs.toArray 38)) :=
        load_new Try.underlying38 infoEv hcl rfl
      have HE := hide hE
      have HA := hide ha
      have HN := hide hno
      have HF := hide hfl
      have HCL := hide hcl
      have L1 := hide ld1
      have S1 := hide st1
      have L2 := hide ld2
      have LA := hide (hI.out.2.2.alloc (Nat.le_refl _) (.cells cs.toArray 38))
      clear hE ha hno hfl hcc hcl ld1 st1 ld2
      go_wp2_with (first
        | (refine wpList_load_at 38 (.tmp 14) rfl rfl (.pointer (some ⟨b, off + k * 28, none⟩)) rfl (.agg cs.toArray) L1.out ?_)
        | (refine wpList_store_at 38 (.tmp 6) (.tmp 15) rfl rfl (.pointer (some ⟨wr.heap.size, 0, none⟩)) (.agg cs.toArray) rfl rfl _ (S1.out _ rfl) ?_)
        | (refine wpList_load_at 38 (.tmp 6) rfl rfl (.pointer (some ⟨wr.heap.size, 0, none⟩)) rfl (.agg cs.toArray) L2.out ?_))
      refine (may_any e _ _ (HE.out.below LA.out.bel)).mono ?_
      rintro r w1 ⟨rfl, hb1⟩
      have LB := hide (LA.out.below (Nat.le_refl _) hb1)
      have OB : w1.heap[wr.heap.size]? = some (.cells cs.toArray 38 (0, 0)) := (hb1.block _ (by simp)).trans (heap_alloc_new _ _)
      have L3 : Hid ((Instr.loadAt 38 (.pointer (some ⟨wr.heap.size, 0, none⟩))).run Try.prog w1 = .ok (.agg cs.toArray) w1) := load_obj Try.underlying38 infoEv (by simpa using HCL.out) OB
      clear hb1 OB LA L1 S1 L2
      obtain ⟨q, hq⟩ : ∃ q, Hid (evB e = q) := ⟨_, rfl⟩
      rw [hq.out]
      rw [hq.out] at HA HN
      cases q
      · go_wp2
        go_ret2
        have h := HN.out (by trivial)
        refine ⟨none, 0, 0, by rw [hf.out, h]; rfl, by omega, ?_, LB.out.bel⟩
        rw [encBs_no (hf.out.trans h)]
        exact RowIn.ofNil _ _
      · obtain ⟨nk, hnk⟩ : ∃ q, Hid ((es.take k).flatMap evNs = q) := ⟨_, rfl⟩
        rw [hnk.out] at hI LB HF
        go_wp2_with (refine wpList_load_at 38 (.tmp 6) rfl rfl (.pointer (some ⟨wr.heap.size, 0, none⟩)) rfl (.agg cs.toArray) L3.out ?_)
        refine (layEv_any e _ w w1 w.heap.size m d g nk LB.out.bel (Nat.le_refl _) LB.out.bel.size HE.out hq.out hI.out.2.1 (by omega) LB.out.own).mono ?_
        rintro r w2 ⟨ao2, n2, d2, rfl, N2, hl⟩
        have hm2 : n2 ≤ m + 200000 := ev_more hI.out.2.1 N2.out hq.out
        have hst : Hid ((es.take (k + 1)).all evB = true ∧ ((es.take (k + 1)).flatMap evNs).length = n2 ∧ Lay w.heap.size w (.slice ao2 n2 d2) ((es.take (k + 1)).flatMap evNs) w2) := by
          rw [HF.out]; exact hide ⟨HA.out, N2.out, LB.out.trans hl⟩
        clear hl LB hI
        go_wp2
        go_roundw
        case rel => exact ⟨k + 1, n2, d2, ao2, by omega, by go_num, rfl, by omega, hst⟩
        case measure => simp [intOf]; omega
    · have : k = l := by omega
      subst this
      rw [List.take_of_length_le (by omega)] at hI
      obtain ⟨ao1, d1, e, hrow⟩ := hI.out.2.2.own.form
      rw [hI.out.2.1] at e hrow
      cases e
      have hu : ∀ n ∈ es.flatMap evNs, 0 ≤ n ∧ n ≤ 18446744073709551615 := by
        intro n hn
        obtain ⟨e, he, hn⟩ := List.mem_flatMap.1 hn
        obtain ⟨cs, hc⟩ := rows_mem H.out e he
        exact evNs_b e hc (List.all_eq_true.1 hI.out.1 e he) n hn
      have HR := hide hrow
      have HU := hide hu
      clear hrow hu
      go_wp2_with fail
      refine (put_any [] (es.flatMap evNs) none g 0 0 m d wr (RowIn.ofNil _ _) HR.out HU.out (by omega)).mono ?_
      rintro r w2 ⟨rfl, hown2, hb2⟩
      rw [Nat.zero_add] at hown2
      rw [Nat.zero_add]
      rw [List.nil_append] at hown2
      have HR2 := hide (RowIn.owned hown2)
      have HB2 := hide (hI.out.2.2.bel.trans (hb2.mono hsr))
      clear hown2 hb2
      go_wp2
      go_ret2
      have h := hI.out.1
      refine ⟨_, _, _, by rw [hf.out, h]; rfl, by omega, ?_, HB2.out⟩
      rw [encBs_yes (hf.out.trans h), bytesOf_flat]
      exact HR2.out
end Go.Proofs.Ytdigpjfgjlhhjaa
