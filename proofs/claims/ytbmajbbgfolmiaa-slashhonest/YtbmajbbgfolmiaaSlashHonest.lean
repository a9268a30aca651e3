/-
  whoever votes once an epoch, and always from where it voted to, is never shown (SlashHonest is true of every input).
-/
import Derived.Test.YtbmajbbgfolmiaaRows

import Derived.WalkKit

import Derived.Below

import Derived.ProofKit

import Derived.OpenShut

import Derived.ShutString

import Derived.ChangeOld

import Derived.Test.YtbmajbbgfolmiaaSBad

import Derived.Test.YtbmajbbgfolmiaaStructRows

import Derived.Test.YtbmajbbgfolmiaaHand

import Derived.Deep.CutBlock

import Derived.Deep.CutRange

namespace Go.Proofs.Ytbmajbbgfolmiaa.slashHonest

open Go.ChangeShapes Go.WideShapes Go.ChangeAt Go.RowKit

set_option linter.unusedVariables false

theorem own : ownKnob Try.prog.godebug = none := by kernel_rfl
theorem laidOut : laidOutB Try.prog = true := by kernel_rfl
theorem cells4 : Try.prog.cellsOf 4 = 1 := by kernel_rfl
theorem cells5 : Try.prog.cellsOf 5 = 1 := by kernel_rfl
theorem cells30 : Try.prog.cellsOf 30 = 1 := by kernel_rfl
/-- where it has voted to, and its votes: source, target, root -/
def hon (zs : List Int) : Nat → Int × List (Int × Int × Int)
  | 0 => (0, [])
  | k + 1 => ((hon zs k).1 + 1 + zs.getD k 0 % 5, (hon zs k).2 ++ [((hon zs k).1, (hon zs k).1 + 1 + zs.getD k 0 % 5, zs.getD k 0)])
theorem hon_len (zs : List Int) : ∀ k, (hon zs k).2.length = k
  | 0 => rfl
  | k + 1 => by rw [hon, List.length_append, hon_len zs k]; rfl
theorem hon_all (zs : List Int) : ∀ k, 0 ≤ (hon zs k).1 ∧ (hon zs k).1 ≤ 5 * k ∧ (∀ x ∈ (hon zs k).2, x.1 < x.2.1 ∧ x.2.1 ≤ (hon zs k).1) ∧ (hon zs k).2.Pairwise (fun x y => x.2.1 ≤ y.1)
  | 0 => ⟨by simp [hon], by simp [hon], by simp [hon], by simp [hon]⟩
  | k + 1 => by
    obtain ⟨h1, h2, h3, h4⟩ := hon_all zs k
    have h5 := Int.emod_nonneg (zs.getD k 0) (show (5 : Int) ≠ 0 by omega)
    have h6 := Int.emod_lt_of_pos (zs.getD k 0) (show (0 : Int) < 5 by omega)
    rw [hon]
    dsimp only
    refine ⟨by omega, by omega, fun x hx => ?_, ?_⟩
    · rcases List.mem_append.1 hx with hx | hx
      · have := h3 x hx
        omega
      · rw [List.mem_singleton] at hx
        subst hx
        dsimp only
        omega
    · rw [List.pairwise_append]
      refine ⟨h4, by simp, fun x hx y hy => ?_⟩
      rw [List.mem_singleton] at hy
      subst hy
      exact (h3 x hx).2
theorem hon_bad (zs : List Int) (n i k : Nat) (hi : i < (hon zs n).2.length) (hk : k < i) :
    badB 0 0 ((hon zs n).2[i]).1 0 ((hon zs n).2[i]).2.1 ((hon zs n).2[i]).2.2 0 0 ((hon zs n).2[k]'(by omega)).1 0 ((hon zs n).2[k]'(by omega)).2.1 ((hon zs n).2[k]'(by omega)).2.2 = false := by
  obtain ⟨_, _, h3, h4⟩ := hon_all zs n
  have a := h3 _ (List.getElem_mem hi)
  have b := h3 _ (List.getElem_mem (show k < (hon zs n).2.length by omega))
  have c := List.pairwise_iff_getElem.1 h4 k i (by omega) hi hk
  rw [badB, dblB, decide_eq_false (by omega), arnB, decide_eq_false (by omega), arnB, decide_eq_false (by omega)]
  rfl
def honCs (x : Int × Int × Int) : List Value := [.int .i64 0, .int .u64 0, .int .i64 x.1, .int .u64 0, .int .i64 x.2.1, .int .u64 x.2.2, .slice none 0 0]
def HonC (cs : List Value) (x : Int × Int × Int) : Prop := cs = honCs x
theorem HonC.one (cs : List Value) (x : Int × Int × Int) (h : HonC cs x) : ∀ u ∈ cs, u.oneCell' = true := by
  rw [h]
  simp [honCs, Value.oneCell']
theorem infoV : ((Try.prog.info? 27).bind fun i => i.zero.map fun z => (z, i.size, i.bytes, z.cells.size)) = some (.agg (honCs (0, 0, 0)).toArray, 7, 72, 7) := by kernel_rfl
theorem infoV2 : ∃ i, Try.prog.info? 27 = some i ∧ i.zero = some (.agg (honCs (0, 0, 0)).toArray) ∧ i.size = 7 ∧ i.bytes = 72 := by
  have h := infoV
  cases h1 : Try.prog.info? 27 with
  | none => rw [h1] at h; cases h
  | some i =>
    rw [h1] at h
    simp only [Option.bind_some] at h
    cases h2 : i.zero with
    | none => rw [h2] at h; cases h
    | some z =>
      rw [h2] at h
      simp only [Option.map_some, Option.some.injEq, Prod.mk.injEq] at h
      exact ⟨i, rfl, by rw [h2, h.1], h.2.1, h.2.2.1⟩
theorem wf8 {a : Int} (h : (Lit.int .u8 a).wf = true) : 0 ≤ a ∧ a ≤ 255 := by
  simpa [Lit.wf, IntKind.min, IntKind.max, IntKind.signed, IntKind.bits] using h

set_option maxHeartbeats 4000000 in
theorem walk (a0 : Option Addr) (len0 cap0 : Nat) (z0 : List Int) (w : World) (w0 : IsRow .u8 w a0 len0 cap0 z0) :
    Calls Try.prog 4 #[.slice a0 len0 cap0] w fun e w' => e = .returned (.bool true) ∧ Below w.heap.size w w' := by
  have hR := w0.row
  have hB := w0.bytes
  clear w0
  generalize z0.take len0 = zs at *
  have hlen := hR.len
  have hcap := hR.cap
  unfold maxLen at hcap
  have H := hide hR
  have HB8 := hide hB
  clear hR hB
  obtain ⟨i0, hi, hz0, hz1, hz2⟩ := infoV2
  obtain ⟨n, hn⟩ : ∃ n : Nat, Hid (min len0 40 = n) := ⟨_, rfl⟩
  have hn1 : n ≤ len0 ∧ n ≤ 40 ∧ (n < len0 → n = 40) := by have := hn.out; omega
  have HN1 := hide hn1
  clear hn1
  go_enter Try.func4, Try.ntmps4
  go_wp2_with fail
  refine (awake_any _).mono ?_
  rintro e w1 ⟨rfl, hbel⟩
  have HN := hide hbel
  clear hbel
  go_upto_block 0 with fail
  go_cut [3, 4, 5, 6, 7] from 12 to 38 (fun x _ _ _ _ wx => ∃ g d, x = .slice g n d ∧ Hid (OwnRows HonC 27 7 w1.heap.size wx (.slice g n d) (hon zs n).2 ∧ Below w1.heap.size w1 wx))
  case first =>
    go_wp2_with fail
    go_loopw [3, 4, 14] (fun x y i wr => ∃ (k d : Nat) (g : Option Addr) (at_ : Int), k ≤ n ∧ i = .int .i64 k ∧ y = .int .i64 at_ ∧ x = .slice g k d ∧ Hid ((hon zs k).1 = at_) ∧
        Hid (OwnRows HonC 27 7 w1.heap.size wr (.slice g k d) (hon zs k).2 ∧ Below w1.heap.size w1 wr)) (fun _ _ i _ => n - (intOf i).toNat)
    case atStart => exact ⟨0, 0, none, 0, Nat.zero_le _, rfl, rfl, rfl, rfl, hide ⟨OwnRows.none _ _ _ _ _, Below.refl _ _⟩⟩
    case round =>
      obtain ⟨k, d, g, at_, hk, rfl, rfl, rfl, hat, hI⟩ := hrel
      have hsr := hI.out.2.size
      have hl : Hid ((hon zs k).2.length = k) := hide (hon_len zs k)
      by_cases hlt : k < len0
      · obtain ⟨b, off, rfl, hbs, hcn⟩ := (H.out.below (HN.out.trans (hI.out.2.mono HN.out.size))).cell k hlt
        by_cases h40 : (k : Int) = 40
        · have : k = n := by have := HN1.out; omega
          subst this
          have h40b : ((k : Int) == 40) = true := by simp [h40]
          have h40d : decide ((k : Int) = 40) = true := by simp [h40]
          have hlti : (k : Int) < (len0 : Int) := by omega
          clear h40
          go_wp2
          go_meet
          exact ⟨g, d, rfl, hI⟩
        · have h40b : ((k : Int) == 40) = false := by simp [h40]
          have h40d : decide ((k : Int) = 40) = false := by simp [h40]
          have hkn : k < n := by have := HN1.out; omega
          have hmem : zs.getD k 0 ∈ zs := by rw [List.getD_eq_getElem?_getD, List.getElem?_eq_getElem (by omega)]; exact List.getElem_mem _
          have hx0 := HB8.out _ hmem
          have hab := hon_all zs k
          have hstep : hon zs (k + 1) = ((hon zs k).1 + 1 + zs.getD k 0 % 5, (hon zs k).2 ++ [((hon zs k).1, (hon zs k).1 + 1 + zs.getD k 0 % 5, zs.getD k 0)]) := rfl
          rw [hat.out] at hstep hab
          have hab1 : 0 ≤ at_ ∧ at_ ≤ 200 := by have := HN1.out; omega
          obtain ⟨x, hx⟩ : ∃ x, Hid (zs.getD k 0 = x) := ⟨_, rfl⟩
          rw [hx.out] at hcn hx0 hstep
          have hm0 := Int.emod_nonneg x (show (5 : Int) ≠ 0 by omega)
          have hm1 := Int.emod_lt_of_pos x (show (0 : Int) < 5 by omega)
          have hmt : x.tmod 5 = x % 5 := Int.tmod_eq_emod_of_nonneg hx0.1
          obtain ⟨r, hr⟩ : ∃ r, x % 5 = r := ⟨_, rfl⟩
          rw [hr] at hmt hm0 hm1 hstep
          have u1 : IntKind.u8.wrap r = r := by rw [IntKind.wrap_u8]; omega
          have u2 : IntKind.i64.wrap (at_ + 1) = at_ + 1 := by rw [IntKind.wrap_i64]; omega
          have u3 : IntKind.i64.wrap (at_ + 1 + r) = at_ + 1 + r := by rw [IntKind.wrap_i64]; omega
          have u4 : IntKind.u64.wrap x = x := by rw [IntKind.wrap_u64]; omega
          obtain ⟨t, ht⟩ : ∃ t, at_ + 1 + r = t := ⟨_, rfl⟩
          rw [ht] at u3 hstep
          have HST := hide hstep
          have hrow : Hid (RowsIn HonC 7 (wr.alloc (.cells (honCs (at_, t, x)).toArray 27)) (some ⟨wr.heap.size, 0, none⟩) 1 1 [(at_, t, x)]) := hide (RowsIn.lit (R := HonC) wr wr.heap.size (honCs (at_, t, x)) 27 7 (at_, t, x) rfl rfl rfl)
          clear hstep hmem hab hx hr h40
          go_wp2_with (at_builtin; refine wpList_append_structs (R := HonC) _ rfl (.tmp 27) (.tmp 35) 31 rfl w1.heap.size 27 i0 (.agg (honCs (0, 0, 0)).toArray) 7 72 Try.underlying31 hi hz0 hz1 hz2 rfl (by omega) HonC.one (.slice g k d) k (hon zs k).2 rfl (hI.out.1.below ((Below.refl _ _).alloc (Nat.le_refl _) _) (fun cs v h => h)) hl.out (some ⟨wr.heap.size, 0, none⟩) 1 1 [(at_, t, x)] rfl hrow.out ?c1 ?c2 ?c3 ?_)
          case c1 => have := HN1.out; unfold maxLen; omega
          case c2 => have := HN1.out; omega
          case c3 => simp; omega
          intro ao5 d5 w5 hown hg
          have hb5 : Below w1.heap.size w1 w5 := (hI.out.2.alloc hsr _).grown hg (by simp; omega) (fun j hj => by obtain ⟨css, _, ho⟩ := hI.out.1; exact (ho.lt j hj).1)
          have hst : Hid (OwnRows HonC 27 7 w1.heap.size w5 (.slice ao5 (k + 1) d5) (hon zs (k + 1)).2 ∧ Below w1.heap.size w1 w5) := hide ⟨by rw [HST.out]; exact hown, hb5⟩
          have hat2 : Hid ((hon zs (k + 1)).1 = t) := hide (by rw [HST.out])
          clear hown hg hb5 hI
          go_wp2
          go_roundw
          case rel => exact ⟨k + 1, d5, ao5, t, by omega, by go_num, rfl, rfl, hat2, hst⟩
          case measure => simp [intOf]; omega
      · have : k = n := by have := HN1.out; omega
        subst this
        go_wp2
        go_meet
        exact ⟨g, d, rfl, hI⟩
  case rest =>
    obtain ⟨g, d, rfl, hI⟩ := hcut
    obtain ⟨L, hL⟩ : ∃ L, Hid ((hon zs n).2 = L) := ⟨_, rfl⟩
    have hlL : L.length = n := by rw [← hL.out]; exact hon_len zs n
    have hbad : Hid (∀ i k (hi : i < L.length) (hk : k < i), badB 0 0 (L[i]).1 0 (L[i]).2.1 (L[i]).2.2 0 0 (L[k]'(by omega)).1 0 (L[k]'(by omega)).2.1 (L[k]'(by omega)).2.2 = false) := by
      obtain rfl : (hon zs n).2 = L := hL.out
      exact hide (fun i k hi hk => hon_bad zs n i k hi hk)
    rw [hL.out] at hI
    obtain ⟨ag, dg, eg, hRs⟩ := hI.out.1.rows (by omega)
    rw [hlL] at eg hRs
    cases eg
    have HR := hide hRs
    have HN2 := hide (HN.out.trans (hI.out.2.mono HN.out.size))
    clear hRs hI
    have hcp := HR.out.cap
    unfold maxLen at hcp
    go_wp2
    go_loopw [41] (fun i wr => ∃ j : Nat, j ≤ n ∧ i = .int .i64 j ∧ Hid (Below wc.heap.size wc wr)) (fun i _ => n - (intOf i).toNat)
    case atStart => exact ⟨0, Nat.zero_le _, rfl, hide (Below.refl _ _)⟩
    case round =>
      obtain ⟨j, hj, rfl, hJ⟩ := hrel
      by_cases hlt : j < n
      · obtain ⟨b, off, cs, rfl, hbs, hcl, hcc, hE⟩ := HR.out.row j (by omega)
        obtain ⟨x, hx⟩ : ∃ x, Hid (L[j] = x) := ⟨_, hide rfl⟩
        rw [hx.out] at hE
        obtain rfl : cs = honCs x := hE
        have hcj := hcc
        clear hcc hcl
        have hji : (0 : Int) ≤ (j : Int) ∧ (j : Int) < (n : Int) ∧ (j : Int) ≤ (d : Int) := by omega
        have HCJ := hide hcj
        clear hcj
        have hBJ : Hid (∀ k (hk : k < j), badB 0 0 x.1 0 x.2.1 x.2.2 0 0 (L[k]'(by omega)).1 0 (L[k]'(by omega)).2.1 (L[k]'(by omega)).2.2 = false) := hide (fun k hk => by rw [← hx.out]; exact hbad.out j k (by omega) hk)
        go_wp2
        go_loopw [48] (fun i wr => ∃ k : Nat, k ≤ j ∧ i = .int .i64 k ∧ Hid (Below wc.heap.size wc wr)) (fun i _ => j - (intOf i).toNat)
        case atStart => exact ⟨0, Nat.zero_le _, rfl, hJ⟩
        case round =>
          obtain ⟨k, hk, rfl, hK'⟩ := hrel
          by_cases hlk : k < j
          · obtain ⟨b2, off2, cs, e2, hbs2, hcl, hcc, hE⟩ := HR.out.row k (by omega)
            cases e2
            obtain ⟨y, hy⟩ : ∃ y, Hid (L[k]'(by omega) = y) := ⟨_, hide rfl⟩
            rw [hy.out] at hE
            obtain rfl : cs = honCs y := hE
            have hbk : Hid (badB 0 0 x.1 0 x.2.1 x.2.2 0 0 y.1 0 y.2.1 y.2.2 = false) := hide (by rw [← hy.out]; exact hBJ.out k hlk)
            have hcs : Hid (∀ w', Below wc.heap.size wc w' → w'.cell? ⟨b, off + j * 7, none⟩ = some (.int .i64 0) ∧ w'.cell? ⟨b, off + j * 7 + 1, none⟩ = some (.int .u64 0) ∧ w'.cell? ⟨b, off + j * 7 + 2, none⟩ = some (.int .i64 x.1) ∧ w'.cell? ⟨b, off + j * 7 + 3, none⟩ = some (.int .u64 0) ∧ w'.cell? ⟨b, off + j * 7 + 4, none⟩ = some (.int .i64 x.2.1) ∧ w'.cell? ⟨b, off + j * 7 + 5, none⟩ = some (.int .u64 x.2.2) ∧ w'.cell? ⟨b, off + j * 7 + 6, none⟩ = some (.slice none 0 0) ∧ w'.cell? ⟨b, off + k * 7, none⟩ = some (.int .i64 0) ∧ w'.cell? ⟨b, off + k * 7 + 1, none⟩ = some (.int .u64 0) ∧ w'.cell? ⟨b, off + k * 7 + 2, none⟩ = some (.int .i64 y.1) ∧ w'.cell? ⟨b, off + k * 7 + 3, none⟩ = some (.int .u64 0) ∧ w'.cell? ⟨b, off + k * 7 + 4, none⟩ = some (.int .i64 y.2.1) ∧ w'.cell? ⟨b, off + k * 7 + 5, none⟩ = some (.int .u64 y.2.2) ∧ w'.cell? ⟨b, off + k * 7 + 6, none⟩ = some (.slice none 0 0)) := hide (fun w' hw => by
              have f : ∀ t v, (honCs x)[t]? = some v → t < 7 → w'.cell? ⟨b, off + j * 7 + t, none⟩ = some v := fun t v hv ht => by
                rw [hw.cell (p := ⟨b, off + j * 7 + t, none⟩) hbs, Nat.add_assoc, HCJ.out t ht, hv]
              have f2 : ∀ t v, (honCs y)[t]? = some v → t < 7 → w'.cell? ⟨b, off + k * 7 + t, none⟩ = some v := fun t v hv ht => by
                rw [hw.cell (p := ⟨b, off + k * 7 + t, none⟩) hbs, Nat.add_assoc, hcc t ht, hv]
              exact ⟨f 0 _ rfl (by omega), f 1 _ rfl (by omega), f 2 _ rfl (by omega), f 3 _ rfl (by omega), f 4 _ rfl (by omega), f 5 _ rfl (by omega), f 6 _ rfl (by omega), f2 0 _ rfl (by omega), f2 1 _ rfl (by omega), f2 2 _ rfl (by omega), f2 3 _ rfl (by omega), f2 4 _ rfl (by omega), f2 5 _ rfl (by omega), f2 6 _ rfl (by omega)⟩)
            have hbc : Hid (Below wc.heap.size wc wr.drew) := hide hK'.out.drew
            have hki : (0 : Int) ≤ (k : Int) ∧ (k : Int) < (n : Int) ∧ (k : Int) < (j : Int) := by omega
            clear hcc hcl hK' hy
            go_wp2
            refine wp_region_noPanic ?_
            refine wp_region_held_drew (S := fun w' => w'.cell? ⟨b, off + j * 7, none⟩ = some (.int .i64 0) ∧ w'.cell? ⟨b, off + j * 7 + 1, none⟩ = some (.int .u64 0) ∧ w'.cell? ⟨b, off + j * 7 + 2, none⟩ = some (.int .i64 x.1) ∧ w'.cell? ⟨b, off + j * 7 + 3, none⟩ = some (.int .u64 0) ∧ w'.cell? ⟨b, off + j * 7 + 4, none⟩ = some (.int .i64 x.2.1) ∧ w'.cell? ⟨b, off + j * 7 + 5, none⟩ = some (.int .u64 x.2.2) ∧ w'.cell? ⟨b, off + j * 7 + 6, none⟩ = some (.slice none 0 0) ∧ w'.cell? ⟨b, off + k * 7, none⟩ = some (.int .i64 0) ∧ w'.cell? ⟨b, off + k * 7 + 1, none⟩ = some (.int .u64 0) ∧ w'.cell? ⟨b, off + k * 7 + 2, none⟩ = some (.int .i64 y.1) ∧ w'.cell? ⟨b, off + k * 7 + 3, none⟩ = some (.int .u64 0) ∧ w'.cell? ⟨b, off + k * 7 + 4, none⟩ = some (.int .i64 y.2.1) ∧ w'.cell? ⟨b, off + k * 7 + 5, none⟩ = some (.int .u64 y.2.2) ∧ w'.cell? ⟨b, off + k * 7 + 6, none⟩ = some (.slice none 0 0)) (by kernel_rfl) (hcs.out _ hbc.out) (fun hHeld => ?_)
            refine take_set (i := 0) (v := .slice (some ⟨b, off, none⟩) n d) rfl rfl (by kernel_rfl) (by kernel_rfl) (by kernel_rfl) (fun _ _ _ h => h) (Or.inl ⟨by kernel_rfl, fun w' hSw => ?_⟩) hHeld ?_
            · go_simp
            simp only [List.set_cons_succ, List.set_cons_zero]
            refine take_set (i := 1) (v := .int .i64 (j : Int)) rfl rfl (by kernel_rfl) (by kernel_rfl) (by kernel_rfl) (fun _ _ _ h => h) (Or.inl ⟨by kernel_rfl, fun w' hSw => ?_⟩) hHeld ?_
            · go_simp
            simp only [List.set_cons_succ, List.set_cons_zero]
            refine take_set (i := 2) (v := .pointer (some ⟨b, off + j * 7, none⟩)) rfl rfl (by kernel_rfl) (by kernel_rfl) (by kernel_rfl) (fun _ _ _ h => h) (Or.inl ⟨by kernel_rfl, fun w' hSw => ?_⟩) hHeld ?_
            · go_simp
            simp only [List.set_cons_succ, List.set_cons_zero]
            refine take_set (i := 3) (v := .agg (vcells 0 0 x.1 0 x.2.1 x.2.2 none 0 0)) rfl rfl (by kernel_rfl) (by kernel_rfl) (by kernel_rfl) (fun _ _ _ h => h) (Or.inl ⟨by kernel_rfl, fun w' hSw => ?_⟩) hHeld ?_
            · go_simp
            simp only [List.set_cons_succ, List.set_cons_zero]
            refine take_set (i := 4) (v := .slice (some ⟨b, off, none⟩) n d) rfl rfl (by kernel_rfl) (by kernel_rfl) (by kernel_rfl) (fun _ _ _ h => h) (Or.inl ⟨by kernel_rfl, fun w' hSw => ?_⟩) hHeld ?_
            · go_simp
            simp only [List.set_cons_succ, List.set_cons_zero]
            refine take_set (i := 5) (v := .int .i64 (k : Int)) rfl rfl (by kernel_rfl) (by kernel_rfl) (by kernel_rfl) (fun _ _ _ h => h) (Or.inl ⟨by kernel_rfl, fun w' hSw => ?_⟩) hHeld ?_
            · go_simp
            simp only [List.set_cons_succ, List.set_cons_zero]
            refine take_set (i := 6) (v := .pointer (some ⟨b, off + k * 7, none⟩)) rfl rfl (by kernel_rfl) (by kernel_rfl) (by kernel_rfl) (fun _ _ _ h => h) (Or.inl ⟨by kernel_rfl, fun w' hSw => ?_⟩) hHeld ?_
            · go_simp
            simp only [List.set_cons_succ, List.set_cons_zero]
            refine take_set (i := 7) (v := .agg (vcells 0 0 y.1 0 y.2.1 y.2.2 none 0 0)) rfl rfl (by kernel_rfl) (by kernel_rfl) (by kernel_rfl) (fun _ _ _ h => h) (Or.inl ⟨by kernel_rfl, fun w' hSw => ?_⟩) hHeld ?_
            · go_simp
            simp only [List.set_cons_succ, List.set_cons_zero]
            refine wpAnyH_ready (rs := [8]) (by kernel_rfl) (by simp) ?_
            refine AllReadyH.cons (o := _) rfl (fun K hK => ?_) AllReadyH.nil
            go_simp
            refine (bad_any _ _ _ _ _ _ _ _ _ _ _ _ _ _ _ _ _ _ _).mono ?_
            rintro e w' ⟨rfl, hbel⟩
            rw [hbk.out]
            replace hbc := hide (hbc.out.trans (hbel.mono hbc.out.size))
            clear hbel
            refine hK.out _ _ (hcs.out _ hbc.out) (fun hHeld => ?_)
            clear hK K
            refine wpAnyH_done (by kernel_rfl) ?_ _
            refine NoPanic.normal ?_
            go_wp2
            go_roundw
            case rel => exact ⟨k + 1, by omega, by go_num, hbc⟩
            case measure => simp [intOf]; omega
          · have : k = j := by omega
            subst this
            go_wp2
            go_roundw
            case rel => exact ⟨k + 1, by omega, by go_num, hK'⟩
            case measure => simp [intOf]; omega
      · have : j = n := by omega
        subst this
        go_wp2
        go_ret
        exact ⟨rfl, HN2.out.trans (hJ.out.mono HN2.out.size)⟩

set_option maxRecDepth 100000 in
theorem lifted (os : Os) (started : os.Started) (H : Type) (enc : TypeId × Value → H) :
    ReturnsInHanded {} Try.checked os 4 .any (Rows.slashHonestSpec.pre6 enc Try.prog Try.f4 Rows.slashHonestRow.domain false) (Rows.slashHonestSpec.post enc Try.prog Try.f4 false true false false) := by
  refine returnsInHanded_of_change (C := Try.checked) own started (by kernel_rfl) Try.func4
    (ChangeSpec.witness6 (enc := enc) (C := Try.checked) false ⟨#[], #[.slice none 0 0], []⟩ 8 (by kernel_rfl) (by kernel_rfl) (by kernel_rfl) (by kernel_rfl)) ?_
  intro W base args ds gs before hval0 hW hcnd _
  have hval : ∀ (j : Nat) t v, Try.f4.params[j]? = some t → args[j]? = some v → Value.okWide Try.prog W .any base t v := hval0
  have hW' := hW
  obtain ⟨p, q, hA0, hV, rfl, hfz, hnd⟩ := hW
  have hA : DataW.TrodAll enc Try.prog W 0 (fun _ => true) true Try.f4.params.toList args.toList ds p := hA0
  rw [Try.params4] at hA hval
  obtain ⟨v0, vs0, d0, ds0, p0, q0, hargs, rfl, rfl, h0, r0⟩ := trodAll_cons hA
  obtain ⟨rfl, rfl, rfl⟩ := trodAll_nil r0
  obtain rfl : args = #[v0] := by cases args; simp_all
  obtain ⟨rfl, rfl⟩ := trodVars_none hV
  obtain ⟨a0, len0, cap0, rfl⟩ := okWide_slice Try.underlying30 (hval 0 30 v0 rfl rfl)
  have k0 := h0
  have lt0 : ∀ x ∈ p0, x.block < W.heap.size := by obtain ⟨m, hm⟩ := k0; exact DataW.trod_lt m _ _ _ hm
  obtain ⟨z0, w0⟩ : ∃ zs, IsRow .u8 W a0 len0 cap0 zs := by
    obtain ⟨fuel, hf⟩ := h0
    rcases open_ints Try.underlying30 Try.underlying5 (by kernel_rfl) hf with ⟨hcs, _⟩ | ⟨x, l, c, zs, hcs, _, hl, hm, hz, _, hcell, hwz⟩
    · simp [Value.cells] at hcs
      obtain ⟨rfl, rfl, rfl⟩ := hcs
      exact ⟨[], .inl ⟨rfl, rfl, rfl, rfl⟩⟩
    · simp [Value.cells] at hcs
      obtain ⟨rfl, rfl, rfl⟩ := hcs
      exact ⟨zs, .inr ⟨_, rfl, hl, hm, by simpa using hz, hcell, hwz⟩⟩
  clear hA0 hval0
  refine (walk a0 len0 cap0 z0 W w0).mono fun e W' ⟨he, bel⟩ => ?_
  subst he
  exact ⟨_, rfl, _, _, _, [], _, [], hW', trodAll_mk1 (shut_bool Try.underlying4 _), (trodAll_cons_mk (Below.trod laidOut (by kernel_rfl) (of_decide_eq_true (by kernel_rfl)) k0 bel lt0) trodAll_mk0), rfl, bel.frame _, fun h => by cases h⟩

theorem over : Rows.slashHonestRow.holds Try.pinned (OpenSpec.ofChange Rows.slashHonestSpec) :=
  OpenClaim.holds_of_wide 4 Try.f4 rfl rfl rfl rfl rfl rfl rfl ⟨rfl, rfl, rfl, rfl, rfl⟩ rfl rfl rfl rfl rfl (by kernel_rfl) Try.func4 (by kernel_rfl)
    (of_decide_eq_true (by kernel_rfl)) (by unfold Func.isWrapper; first | (rw [if_pos (by decide +kernel)]; kernel_rfl) | (rw [if_neg (by decide +kernel)]; exact ⟨rfl, rfl⟩))
    (fun os started H enc _ => lifted os started H enc)

theorem proved : Rows.SlashHonestSaid := over
end Go.Proofs.Ytbmajbbgfolmiaa.slashHonest
