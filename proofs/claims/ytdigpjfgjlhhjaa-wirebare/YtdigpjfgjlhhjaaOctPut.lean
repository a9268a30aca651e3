/- Contract of octet.Put: the bytes it was given, and behind them each number in eight bytes, in a new row. -/
import Derived.Test.YtdigpjfgjlhhjaaOctGet

namespace Go.Proofs.Ytdigpjfgjlhhjaa

open Go.ChangeShapes Go.WideShapes Go.ChangeAt Go.RowKit

set_option linter.unusedVariables false

/-- a number's eight bytes, the high ones first -/
def be8 (n : Int) : List Int := [n / 72057594037927936, n / 281474976710656 % 256, n / 1099511627776 % 256, n / 4294967296 % 256, n / 16777216 % 256, n / 65536 % 256, n / 256 % 256, n % 256]
theorem num_be8 (n : Int) (h0 : 0 ≤ n) (h1 : n ≤ 18446744073709551615) : num (be8 n) = n := by simp only [be8, num, List.foldl]; omega
theorem bytes_be8 (n : Int) (h0 : 0 ≤ n) (h1 : n ≤ 18446744073709551615) : Bytes8 (be8 n) := by intro z hz; simp only [be8, List.mem_cons, List.not_mem_nil, or_false] at hz; omega
theorem len_be8 (n : Int) : (be8 n).length = 8 := rfl
def flat (ns : List Int) : List Int := ns.flatMap be8
theorem len_flat (ns : List Int) : (flat ns).length = 8 * ns.length := by
  induction ns with
  | nil => rfl
  | cons n ns ih => simp only [flat, List.flatMap_cons, List.length_append, List.length_cons, len_be8]; simp only [flat] at ih; omega
theorem flat_snoc (ns : List Int) (n : Int) : flat (ns ++ [n]) = flat ns ++ be8 n := by simp [flat]

/-- the cells of a row that was just laid -/
theorem cell_new_row (w : World) (cs : Array Value) (e : TypeId) (l : List Value) (hl : cs.toList = l) : ∀ j u, l[j]? = some u → (w.alloc (.cells cs e)).cell? ((⟨w.heap.size, 0, none⟩ : Addr).add j) = some u := by
  intro j u h
  rw [Addr.add_lit, cell_of_row _ w.heap.size (0 + j) cs e (0, 0) (heap_alloc_new w _), Nat.zero_add, ← Array.getElem?_toList, hl]
  exact h

theorem flat_cons (n : Int) (ns : List Int) : flat (n :: ns) = be8 n ++ flat ns := by simp [flat]
theorem flat_append (ns ms : List Int) : flat (ns ++ ms) = flat ns ++ flat ms := by simp [flat]
theorem flat_piece : ∀ (ns : List Int) (k : Nat), k < ns.length → ((flat ns).drop (8 * k)).take 8 = be8 (ns.getD k 0)
  | [], k, h => by simp at h
  | n :: ns, 0, _ => by rw [flat_cons]; simp [be8]
  | n :: ns, k + 1, h => by
    have ih := flat_piece ns k (by simpa using h)
    rw [flat_cons, show 8 * (k + 1) = 8 + 8 * k from by omega, ← List.drop_drop, List.drop_left' (len_be8 n), ih]
    simp
theorem put_piece (bs ns : List Int) (k : Nat) (h : k < ns.length) : ((bs ++ flat ns).drop (bs.length + 8 * k)).take 8 = be8 (ns.getD k 0) := by
  rw [← List.drop_drop, List.drop_left, flat_piece ns k h]

theorem info8 : (Try.prog.info? 5).map (fun i => (i.zero, i.size, i.bytes)) = some (some (.int .u8 0), 1, 1) := by kernel_rfl

set_option maxHeartbeats 1000000 in
theorem put_any (bs ns : List Int) (ab an : Option Addr) (lb cb ln cn : Nat) (w : World) (hb : RowIn .u8 w ab lb cb bs) (hn : RowIn .u64 w an ln cn ns)
    (hu : ∀ n ∈ ns, 0 ≤ n ∧ n ≤ 18446744073709551615) (hroom : lb + 8 * ln ≤ 281474976710656) :
    Calls Try.prog 10 #[.slice ab lb cb, .slice an ln cn] w fun e w' =>
      e = .returned (.slice (some ⟨w.heap.size, 0, none⟩) (lb + 8 * ln) (lb + 8 * ln)) ∧
      w'.ownsRow w.heap.size 5 1 (.slice (some ⟨w.heap.size, 0, none⟩) (lb + 8 * ln) (lb + 8 * ln)) (lb + 8 * ln) ((bs ++ flat ns).map (Value.int .u8)) ∧ Below w.heap.size w w' := by
  obtain ⟨i0, hi, hz0, hz1, hz2⟩ := info_parts info8
  have hbl := hb.len
  have hnl := hn.len
  go_enter Try.func10, Try.ntmps10
  go_wp2_with (first
    | (at_make; refine wpList_make_own _ rfl _ _ 40 rfl w.heap.size 5 i0 (.int .u8 0) 1 Try.underlying40 hi hz0 hz1 _ _ _ (lb + 8 * ln) rfl rfl (by omega) ?b2 ?b3 (Nat.le_refl _) ?_))
  case b2 => rw [hz2]; omega
  case b3 => unfold maxLen; omega
  intro w0 hown0 hgrow0
  have hbel0 : Below w.heap.size w w0 := (Below.refl _ _).grown hgrow0 (Nat.le_refl _) (fun k h => by cases h)
  go_wp2_with (first
    | (at_builtin; refine wpList_append_fits_any _ rfl _ _ 40 rfl w.heap.size 5 i0 1 Try.underlying40 hi hz1 w.heap.size 0 (lb + 8 * ln) _ rfl hown0 ab lb cb (bs.map (Value.int .u8)) rfl ?c1 ?c2 ?c3 (ints_oneCell _ _) ?c4 ?_))
  case c1 => simp [hbl]
  case c2 => exact hb.nil
  case c3 =>
    intro ad had j u hu'
    have hj : j < lb := by have := (List.getElem?_eq_some_iff.1 hu').1; simpa [hbl] using this
    obtain ⟨b, off, hab, hlt, hc⟩ := hb.cell j hj
    rw [had] at hab
    obtain rfl := Option.some.inj hab
    rw [Addr.add_lit, hbel0.cell (by exact hlt), hc]
    simpa [List.getD_eq_getElem?_getD, List.getElem?_eq_getElem (show j < bs.length by omega)] using hu'
  case c4 => omega
  intro w1 hown1 hgrow1
  have hbel1 : Below w.heap.size w w1 := hbel0.grown hgrow1 hbel0.size (fun k h => by cases h; exact Nat.le_refl _)
  clear hown0 hgrow0 hgrow1 hbel0
  go_wp2
  go_loopw [5, 20] (fun out i wr => ∃ k : Nat, k ≤ ln ∧ i = .int .i64 k ∧ out = .slice (some ⟨w.heap.size, 0, none⟩) (lb + 8 * k) (lb + 8 * ln) ∧
      wr.ownsRow w.heap.size 5 1 (.slice (some ⟨w.heap.size, 0, none⟩) (lb + 8 * k) (lb + 8 * ln)) (lb + 8 * k) ((bs ++ flat (ns.take k)).map (Value.int .u8)) ∧ Below w.heap.size w wr)
    (fun _ i _ => ln - (intOf i).toNat)
  case atStart => exact ⟨0, Nat.zero_le _, rfl, rfl, by simpa [flat] using hown1, hbel1⟩
  case round =>
    obtain ⟨k, hk, rfl, rfl, hown, hbel⟩ := hrel
    clear hown1 hbel1
    have hln : ln ≤ 35184372088832 := by omega
    by_cases hlt : k < ln
    · obtain ⟨b, off, rfl, hbl', hcn⟩ := hn.cell k hlt
      have hc' : wr.cell? ⟨b, off + k, none⟩ = some (.int .u64 (ns.getD k 0)) := (hbel.cell (by exact hbl')).trans hcn
      have hnb := hu (ns.getD k 0) (by rw [List.getD_eq_getElem?_getD, List.getElem?_eq_getElem (show k < ns.length by omega)]; exact List.getElem_mem _)
      obtain ⟨n, hnk⟩ : ∃ n, Hid (ns.getD k 0 = n) := ⟨_, rfl⟩
      rw [hnk.out] at hc' hnb
      clear hcn
      go_wp2_with (first
        | (at_builtin; refine wpList_append_fits _ rfl (.tmp 24) (.tmp 48) 40 rfl w.heap.size 5 i0 1 Try.underlying40 hi hz1 w.heap.size (lb + 8 * k) (lb + 8 * ln) _ rfl (hown.alloc _) ⟨wr.heap.size, 0, none⟩ 8 8 ((be8 n).map (Value.int .u8)) rfl rfl ?c1 (ints_oneCell _ _) ?c2 ?_))
      case c1 => exact cell_new_row _ _ _ _ rfl
      case c2 => omega
      intro w1 hown1 hgrow1
      go_wp2
      go_roundw
      case rel =>
        refine ⟨k + 1, by omega, by go_num, by rw [show lb + 8 * (k + 1) = lb + 8 * k + 8 from by omega], ?_, ?_⟩
        · have e : ns.take (k + 1) = ns.take k ++ [n] := by
            rw [List.take_succ_eq_append_getElem (show k < ns.length by omega)]
            have h3 := hnk.out
            rw [List.getD_eq_getElem?_getD, List.getElem?_eq_getElem (show k < ns.length by omega), Option.getD_some] at h3
            rw [h3]
          rw [show lb + 8 * (k + 1) = lb + 8 * k + 8 from by omega, e, flat_snoc, List.map_append, List.map_append]
          exact hown1
        · exact (hbel.alloc hbel.size _).grown hgrow1 (by simp; have := hbel.size; omega) (fun k hk => by cases hk; exact Nat.le_refl _)
      case measure => simp [intOf]; omega
    · have hkk : k = ln := by omega
      subst hkk
      go_wp2
      go_ret
      rw [List.take_of_length_le (by omega)] at hown
      exact ⟨rfl, hown, hbel⟩
end Go.Proofs.Ytdigpjfgjlhhjaa
