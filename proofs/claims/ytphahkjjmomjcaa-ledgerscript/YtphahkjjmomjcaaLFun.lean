/- Contracts of ledger's nobody, clone, enough, with, end. -/
import Derived.Test.YtphahkjjmomjcaaLPure

import Derived.Test.YtphahkjjmomjcaaLRow

import Derived.Test.YtphahkjjmomjcaaHand

import Derived.Test.YtphahkjjmomjcaaRegG

import Derived.Deep.OwnRows

import Derived.Deep.RegionHeld3

import Derived.Deep.QuietTactic

import Derived.BigQuiet

import Derived.Laws.CopyOwn

namespace Go.Proofs.Ytphahkjjmomjcaa

open Go.ChangeShapes Go.WideShapes Go.ChangeAt Go.RowKit

set_option linter.unusedVariables false

theorem below_two {w w1 w2 : World} (h1 : Below w.heap.size w w1) (h2 : Below w1.heap.size w1 w2) : Below w.heap.size w w2 := h1.trans (h2.mono h1.size)
abbrev bobj (vs : List Bool) : Obj := .cells (vs.map Value.bool).toArray 4
theorem made_bools (n : Nat) : madeCells #[Value.bool false] n = ((List.replicate n false).map Value.bool).toArray := by
  have h : (madeCells #[Value.bool false] n).toList = (List.replicate n false).map Value.bool := by
    rw [List.map_replicate]
    have := toList_madeCells_one (Value.bool false) n
    first | exact this | simpa using this
  rw [← h]

set_option maxRecDepth 100000 in
set_option maxHeartbeats 400000 in
theorem nobody_any (a : Option Addr) (l c : Nat) (s b : Int) (w : World) (hl : l ≤ 4096) :
    Calls Try.prog 48 #[.agg #[.slice a l c, .int .i64 s, .int .i64 b]] w fun e w' => ∃ g, e = .returned (.slice (some ⟨g, 0, none⟩) l l) ∧ OAt w' g (bobj (List.replicate l false)) ∧ w.heap.size ≤ g ∧ Below w.heap.size w w' := by
  obtain ⟨i0, hi, hz0, hz1, hz2⟩ := info_parts infoB
  have HA := hide (OAt.new (w.alloc (cfg a l c s b)) (bobj (List.replicate l false)))
  have HB := hide ((((Below.refl w.heap.size w).alloc (Nat.le_refl _) (cfg a l c s b)).alloc (by simp)) (bobj (List.replicate l false)))
  unfold bobj at HA HB
  rw [← made_bools] at HA HB
  go_enter Try.func48, Try.ntmps48
  go_wp2_with (at_make; refine wpList_make_row _ rfl _ _ 26 rfl 4 i0 (.bool false) Try.underlying26 hi hz0 hz1 rfl _ _ l rfl rfl ?b1 ?b2 ?_)
  case b1 => rw [hz2]; omega
  case b2 => omega
  go_wp2
  go_ret
  refine ⟨_, rfl, ?_, ?_, HB.out⟩
  · unfold bobj
    rw [← made_bools, show w.heap.size + 1 = (w.alloc (cfg a l c s b)).heap.size from by simp]
    exact HA.out
  · simp

set_option maxRecDepth 100000 in
set_option maxHeartbeats 1000000 in
theorem enough_led (bs : List Int) (vs : List Bool) (a : Option Addr) (l c : Nat) (s b : Int) (a2 : Option Addr) (n c2 : Nat) (w : World) (hB : RowIn .u64 w a l c bs) (hu : ∀ z ∈ bs, 0 ≤ z ∧ z ≤ 18446744073709551615)
    (hV : RowB w a2 n c2 vs) (hn : n ≤ 4096) :
    Calls Try.prog 50 #[.agg #[.slice a l c, .int .i64 s, .int .i64 b], .slice a2 n c2] w fun e w' => e = .returned (.bool (en bs vs)) ∧ Below w.heap.size w w' := by
  have hvl := hV.len
  have hvc := hV.cap
  unfold maxLen at hvc
  have HB := hide (hB.alloc (cfg a l c s b))
  have HV := hide (hV.alloc (cfg a l c s b))
  have HN := hide ((Below.refl w.heap.size w).alloc (Nat.le_refl _) (cfg a l c s b))
  have HC := hide (OAt.new w (cfg a l c s b))
  have hsb := sums_b bs hu (idx vs)
  have htb := tot_b bs
  have HE : Hid (enB (sums bs (idx vs)) (tot bs) = en bs vs) := hide rfl
  clear hB hV hu
  obtain ⟨i0, hi, hz0, hz1, hz2⟩ := info_parts infoI
  go_enter Try.func50, Try.ntmps50
  go_wp2
  generalize hW : w.alloc (.cells #[.slice a l c, .int .i64 s, .int .i64 b] 24) = W at *
  have hWs : w.heap.size < W.heap.size := by rw [← hW]; simp
  clear hW
  go_loopw [5, 10] (fun x i wr => ∃ (k : Nat) (ao : Option Addr) (d : Nat), k ≤ n ∧ i = .int .i64 k ∧ x = .slice ao (idxK vs k).length d ∧ Hid (wr.ownsRow W.heap.size 3 1 (.slice ao (idxK vs k).length d) (idxK vs k).length ((idxK vs k).map (Value.int .i64)) ∧ Below W.heap.size W wr)) (fun x i _ => n - (intOf i).toNat)
  case atStart => exact ⟨0, none, 0, Nat.zero_le _, rfl, rfl, hide ⟨World.ownsRow_nil _ _ _ _, Below.refl _ _⟩⟩
  case round =>
    obtain ⟨k, ao, d, hk, rfl, rfl, hI⟩ := hrel
    obtain ⟨hown, hbel⟩ := hI.out
    by_cases hlt : k < n
    · obtain ⟨g, off, rfl, hbs, hcn⟩ := (HV.out.below hbel).cell k hlt
      by_cases hx : vs.getD k false = true
      · rw [hx] at hcn
        obtain ⟨m, hm⟩ : ∃ m, Hid ((idxK vs k).length = m) := ⟨_, rfl⟩
        rw [hm.out] at hown ⊢
        have hmk : m ≤ k := by rw [← hm.out]; exact idxK_len vs k
        have HO := hide hown
        have HBL := hide hbel
        have hin := hide (idxK_in vs k hx)
        have hsz := hbel.size
        clear hI hown hbel
        go_wp2_with (at_builtin; refine wpList_append_rows _ rfl (.tmp 16) (.tmp 18) 68 rfl W.heap.size 3 i0 .i64 (.int .i64 0) 8 Try.underlying68 hi hz0 hz1 hz2 rfl (.slice ao m d) m (idxK vs k) rfl (owns_below HO.out (below_alloc _ _)) (some ⟨wr.heap.size, 0, none⟩) 1 1 [(k : Int)] rfl (RowIn.lit .i64 _ _ _ _ _ _ _ [(k : Int)] rfl rfl rfl (by simp [maxLen])) ?c1 ?c2 ?c3 ?_)
        case c1 => unfold maxLen; omega
        case c2 => omega
        case c3 => simp; omega
        intro ao4 d4 w4 hown4 hgrow4
        have HB4 := hide ((HBL.out.alloc hsz (.cells #[.int .i64 (k : Int)] 3)).grown hgrow4 (by simp; omega) (fun j hj => (HO.out.lt j hj).1))
        have hm4 : m + 1 = (idxK vs (k + 1)).length := by rw [hin.out, List.length_append, hm.out]; rfl
        replace hown4 : w4.ownsRow W.heap.size 3 1 (.slice ao4 (m + 1) d4) (m + 1) ((idxK vs (k + 1)).map (Value.int .i64)) := by rw [hin.out, List.map_append]; exact hown4
        rw [hm4] at hown4 ⊢
        have HO4 := hide hown4
        clear hown4 hgrow4 hm4 HO HBL hin
        go_wp2
        go_roundw
        case rel => exact ⟨k + 1, ao4, d4, by omega, by go_num, rfl, hide ⟨HO4.out, HB4.out⟩⟩
        case measure => simp [intOf]; omega
      · have hx : vs.getD k false = false := by simpa using hx
        rw [hx] at hcn
        have hout := idxK_out vs k hx
        rw [← hout] at hown ⊢
        have HO := hide hown
        have HBL := hide hbel
        clear hI hown hbel hout
        go_wp2
        go_roundw
        case rel => exact ⟨k + 1, ao, d, by omega, by go_num, rfl, hide ⟨HO.out, HBL.out⟩⟩
        case measure => simp [intOf]; omega
    · have hkk : k = n := by omega
      subst hkk
      have e0 : idxK vs k = idx vs := by unfold idx; rw [hvl]
      rw [e0] at hown ⊢
      obtain ⟨ao1, c1, e1, HR⟩ := RowIn.ofOwned hown
      cases e1
      have hcs : Hid (∀ w', Below wr.heap.size wr w' → w'.cell? ⟨w.heap.size, 0, none⟩ = some (.slice a l c) ∧ w'.cell? ⟨w.heap.size, 1, none⟩ = some (.int .i64 s) ∧ w'.cell? ⟨w.heap.size, 2, none⟩ = some (.int .i64 b)) := fun w' hb => by
        have h := (HC.out.below hbel).below hb
        exact ⟨h.cell 0, h.cell 1, h.cell 2⟩
      have hrb : Hid (∀ w', Below wr.heap.size wr w' → RowIn .u64 w' a l c bs) := fun w' hb => (HB.out.below hbel).below hb
      have hri : Hid (∀ w', Below wr.heap.size wr w' → RowIn .i64 w' ao (idx vs).length d (idx vs)) := fun w' hb => HR.below hb
      have HN2 := hide (below_two HN.out hbel)
      obtain ⟨m, hm⟩ : ∃ m, (idx vs).length = m := ⟨_, rfl⟩
      rw [hm] at hri ⊢
      obtain ⟨s1, hs1⟩ : ∃ x, Hid (sums bs (idx vs) = x) := ⟨_, rfl⟩
      obtain ⟨t1, ht1⟩ : ∃ x, Hid (tot bs = x) := ⟨_, rfl⟩
      rw [hs1.out] at HE hsb
      rw [ht1.out] at HE htb
      clear hI hown hbel HC HB HV HN HR e0 hm
      go_wp2_with fail
      refine startG (fun w' => Below wr.heap.size wr w') 7 (by kernel_rfl) (Below.refl _ _).drew ?_
      refine takeG (i := 0) (v := .agg #[.slice a l c, .int .i64 s, .int .i64 b]) rfl rfl (by kernel_rfl) (by kernel_rfl) (by kernel_rfl) (by kernel_rfl) (fun _ _ _ h => h) (Or.inl ⟨by kernel_rfl, fun w' hSw => Or.inl ⟨w', ?_, hSw⟩⟩) ?_
      · have hl := hcs.out w' hSw; go_simp
      simp only [List.set_cons_succ, List.set_cons_zero]
      refine takeG (i := 1) (v := .slice ao m d) rfl rfl (by kernel_rfl) (by kernel_rfl) (by kernel_rfl) (by kernel_rfl) (fun _ _ _ h => h) (Or.inl ⟨by kernel_rfl, fun w' hSw => Or.inl ⟨w', ?_, hSw⟩⟩) ?_
      · go_simp
      simp only [List.set_cons_succ, List.set_cons_zero]
      refine takeG (i := 2) (v := .int .u64 s1) rfl rfl (by kernel_rfl) (by kernel_rfl) (by kernel_rfl) (by kernel_rfl) (fun _ _ _ h => h) (Or.inl ⟨by kernel_rfl, fun w' hSw => doesOf rfl (by kernel_rfl) fun K hK => ?_⟩) ?_
      · go_simp
        refine (sum_any bs (idx vs) _ _ _ _ _ _ _ _ _ (hrb.out _ hSw) (hri.out _ hSw)).mono ?_
        rintro e w2 ⟨rfl, rfl⟩
        rw [hs1.out]
        exact hK.out _ (hSw.alloc hSw.size _)
      simp only [List.set_cons_succ, List.set_cons_zero]
      refine takeG (i := 3) (v := .agg #[.slice a l c, .int .i64 s, .int .i64 b]) rfl rfl (by kernel_rfl) (by kernel_rfl) (by kernel_rfl) (by kernel_rfl) (fun _ _ _ h => h) (Or.inl ⟨by kernel_rfl, fun w' hSw => Or.inl ⟨w', ?_, hSw⟩⟩) ?_
      · have hl := hcs.out w' hSw; go_simp
      simp only [List.set_cons_succ, List.set_cons_zero]
      refine takeG (i := 4) (v := .int .u64 t1) rfl rfl (by kernel_rfl) (by kernel_rfl) (by kernel_rfl) (by kernel_rfl) (fun _ _ _ h => h) (Or.inl ⟨by kernel_rfl, fun w' hSw => doesOf rfl (by kernel_rfl) fun K hK => ?_⟩) ?_
      · go_simp
        refine (total_any bs _ _ _ _ _ _ (hrb.out _ hSw)).mono ?_
        rintro e w2 ⟨rfl, rfl⟩
        rw [ht1.out]
        exact hK.out _ (hSw.alloc hSw.size _)
      simp only [List.set_cons_succ, List.set_cons_zero]
      refine takeG (i := 5) (v := .bool (en bs vs)) rfl rfl (by kernel_rfl) (by kernel_rfl) (by kernel_rfl) (by kernel_rfl) (fun _ _ _ h => h) (Or.inl ⟨by kernel_rfl, fun w' hSw => doesOf rfl (by kernel_rfl) fun K hK => ?_⟩) ?_
      · go_simp
        refine (enough_any _ _ _ hsb htb).mono ?_
        rintro e w2 ⟨rfl, hw⟩
        rw [HE.out]
        exact hK.out _ (by rw [hw]; exact hSw)
      simp only [List.set_cons_succ, List.set_cons_zero]
      refine takeG (i := 6) (v := .bool (en bs vs)) rfl rfl (by kernel_rfl) (by kernel_rfl) (by kernel_rfl) (by kernel_rfl) (fun _ _ _ h => h) (Or.inl ⟨by kernel_rfl, fun w' hSw => Or.inl ⟨w', ?_, hSw⟩⟩) ?_
      · go_simp
      simp only [List.set_cons_succ, List.set_cons_zero]
      refine doneG (by kernel_rfl) fun w' hSw => ?_
      replace HN2 := hide (below_two HN2.out hSw)
      clear hSw
      go_wp2
      go_ret
      exact ⟨rfl, HN2.out⟩

/-- a state, as it is handed over, and as it is laid -/
abbrev lcells (j : JS) (e : Int) (a1 : Option Addr) (l1 c1 : Nat) (a2 : Option Addr) (l2 c2 : Nat) : Array Value := #[.bool j.b0, .bool j.b1, .bool j.b2, .bool j.b3, .int .i64 j.pe, .int .u64 j.pr, .int .i64 j.ce, .int .u64 j.cr, .int .i64 j.fe, .int .u64 j.fr, .int .i64 e, .slice a1 l1 c1, .slice a2 l2 c2]
abbrev lobj (j : JS) (e : Int) (a1 : Option Addr) (l1 c1 : Nat) (a2 : Option Addr) (l2 c2 : Nat) : Obj := .cells (lcells j e a1 l1 c1 a2 l2 c2) 66

theorem infoLS : (Try.prog.info? 66).map (·.size) = some 13 := by kernel_rfl
theorem lcells_one (j : JS) (e : Int) (a1 : Option Addr) (l1 c1 : Nat) (a2 : Option Addr) (l2 c2 : Nat) : ∀ v ∈ (lcells j e a1 l1 c1 a2 l2 c2).toList, v.oneCell' = true := by simp [Value.oneCell']
abbrev jz : JS := ⟨false, false, false, false, 0, 0, 0, 0, 0, 0⟩

set_option maxRecDepth 100000 in
set_option maxHeartbeats 4000000 in
theorem clone_led (j : JS) (e : Int) (vs us : List Bool) (a1 : Option Addr) (n c1 : Nat) (a2 : Option Addr) (c2 : Nat) (w : World) (hV : RowB w a1 n c1 vs) (hU : RowB w a2 n c2 us) (hn : 0 < n ∧ n ≤ 4096) :
    Calls Try.prog 49 #[.agg (lcells j e a1 n c1 a2 n c2)] w fun x w' => ∃ b1 d1 b2 d2, x = .returned (.agg (lcells j e b1 n d1 b2 n d2)) ∧ RowB w' b1 n d1 vs ∧ RowB w' b2 n d2 us ∧ (∀ b off, b1 = some ⟨b, off, none⟩ → w.heap.size ≤ b) ∧ (∀ b off, b2 = some ⟨b, off, none⟩ → w.heap.size ≤ b) ∧ Below w.heap.size w w' := by
  have F1 := hide (hV.far hn.1)
  have F2 := hide (hU.far hn.1)
  have HV := hide ((hV.alloc (lobj j e a1 n c1 a2 n c2)).alloc (lobj jz 0 none 0 0 none 0 0))
  have HU := hide ((hU.alloc (lobj j e a1 n c1 a2 n c2)).alloc (lobj jz 0 none 0 0 none 0 0))
  have HS := hide ((OAt.new w (lobj j e a1 n c1 a2 n c2)).alloc (lobj jz 0 none 0 0 none 0 0))
  have HT := hide (OAt.new (w.alloc (lobj j e a1 n c1 a2 n c2)) (lobj jz 0 none 0 0 none 0 0))
  have HN := hide (((Below.refl _ w).alloc (Nat.le_refl _) (lobj j e a1 n c1 a2 n c2)).alloc (by simp) (lobj jz 0 none 0 0 none 0 0))
  simp only [World.size_alloc] at HT
  clear hV hU
  go_enter Try.func49, Try.ntmps49
  go_upto_region 1 with fail
  rw [show (#[Value.bool false, Value.bool false, Value.bool false, Value.bool false, Value.int IntKind.i64 0, Value.int IntKind.u64 0, Value.int IntKind.i64 0, Value.int IntKind.u64 0, Value.int IntKind.i64 0, Value.int IntKind.u64 0, Value.int IntKind.i64 0, Value.slice none 0 0, Value.slice none 0 0] : Array Value) = lcells jz 0 none 0 0 none 0 0 from rfl]
  generalize hW : (w.alloc (lobj j e a1 n c1 a2 n c2)).alloc (lobj jz 0 none 0 0 none 0 0) = W at HV HU HS HT HN
  have hWs : W.heap.size = w.heap.size + 1 + 1 := by rw [← hW]; simp
  have hcs : Hid (∀ w', Below W.heap.size W w' → w'.cell? ⟨w.heap.size, 11, none⟩ = some (.slice a1 n c1) ∧ w'.cell? ⟨w.heap.size, 12, none⟩ = some (.slice a2 n c2)) := fun w' h => by
    have V := HS.out.below h
    exact ⟨V.cell 11, V.cell 12⟩
  have hbd : Hid (Below W.heap.size W W.drew) := hide (Below.refl _ _).drew
  clear hW
  refine wp_region_noPanic ?_
  refine wp_region_held_drew (S := fun _ => True) (by kernel_rfl) trivial (fun hHeld => ?_)
  refine take_set (i := 0) (v := .pointer (some ⟨w.heap.size, 11, none⟩)) rfl rfl (by kernel_rfl) (by kernel_rfl) (by kernel_rfl) (fun _ _ _ h => h) (Or.inl ⟨by kernel_rfl, fun w' hSw => ?_⟩) hHeld ?_
  · go_simp
  simp only [List.set_cons_succ, List.set_cons_zero]
  refine take_set (i := 3) (v := .pointer (some ⟨w.heap.size, 12, none⟩)) rfl rfl (by kernel_rfl) (by kernel_rfl) (by kernel_rfl) (fun _ _ _ h => h) (Or.inl ⟨by kernel_rfl, fun w' hSw => ?_⟩) hHeld ?_
  · go_simp
  simp only [List.set_cons_succ, List.set_cons_zero]
  refine wpAnyH_ready (rs := [1, 4]) (by kernel_rfl) (by simp) ?_
  refine AllReadyH.cons (o := _) rfl (fun K hK => ?_) (AllReadyH.cons (o := _) rfl (fun K hK => ?_) AllReadyH.nil)
  · have hl := hcs.out _ hbd.out
    go_simp
    refine hK.out _ _ (trivial) (fun hHeld => ?_)
    clear hK K
    refine wpAnyH_ready (rs := [2, 4]) (by kernel_rfl) (by simp) ?_
    refine AllReadyH.cons (o := _) rfl (fun K hK => ?_) (AllReadyH.cons (o := _) rfl (fun K hK => ?_) AllReadyH.nil)
    · go_simp
      refine (clone_any vs _ _ _ _ (HV.out.below hbd.out) hn).mono ?_
      rintro e1 w1 ⟨b1, d1, rfl, R1, N1, hbel⟩
      replace N1 : Hid (∀ b off, b1 = some ⟨b, off, none⟩ → W.heap.size ≤ b) := fun b off e => by have := N1 b off e; have := hbd.out.size; omega
      replace hbd := hide (hbd.out.trans (hbel.mono hbd.out.size))
      have HR1 := hide R1
      clear hbel R1
      refine hK.out _ _ (trivial) (fun hHeld => ?_)
      clear hK K
      have hl := hcs.out _ hbd.out
      refine wpAnyH_ready (rs := [4]) (by kernel_rfl) (by simp) ?_
      refine AllReadyH.cons (o := _) rfl (fun K hK => ?_) AllReadyH.nil
      go_simp
      refine hK.out _ _ (trivial) (fun hHeld => ?_)
      clear hK K
      refine take_set (i := 6) (v := .pointer (some ⟨w.heap.size, 11, none⟩)) rfl rfl (by kernel_rfl) (by kernel_rfl) (by kernel_rfl) (fun _ _ _ h => h) (Or.inl ⟨by kernel_rfl, fun w' hSw => ?_⟩) hHeld ?_
      · go_simp
      simp only [List.set_cons_succ, List.set_cons_zero]
      refine wpAnyH_ready (rs := [5]) (by kernel_rfl) (by simp) ?_
      refine AllReadyH.cons (o := _) rfl (fun K hK => ?_) AllReadyH.nil
      go_simp
      refine (clone_any us _ _ _ _ (HU.out.below hbd.out) hn).mono ?_
      rintro e2 w2 ⟨b2, d2, rfl, R2, N2, hbel⟩
      replace N2 : Hid (∀ b off, b2 = some ⟨b, off, none⟩ → W.heap.size ≤ b) := fun b off e => by have := N2 b off e; have := hbd.out.size; omega
      replace HR1 := hide (HR1.out.below hbel)
      replace hbd := hide (hbd.out.trans (hbel.mono hbd.out.size))
      have HR2 := hide R2
      clear hbel R2
      refine hK.out _ _ (trivial) (fun hHeld => ?_)
      clear hK K
      have hl := hcs.out _ hbd.out
      have ho2 := HS.out.below hbd.out
      have hf2 : ∀ i, w2.frozen? ⟨w.heap.size, i, none⟩ = false := fun i => by unfold World.frozen?; rw [ho2.at_]; simp
      have HA := hide (((Apart.refl w.heap.size w2).set 11 (.slice b1 n d1)).set 12 (.slice b2 n d2))
      have HX := hide (OAt.set (OAt.set ho2 11 (.slice b1 n d1)) 12 (.slice b2 n d2))
      have HS5 : Hid (OAt ((w2.setCell ⟨w.heap.size, 11, none⟩ (.slice b1 n d1)).setCell ⟨w.heap.size, 12, none⟩ (.slice b2 n d2)) w.heap.size (lobj j e b1 n d1 b2 n d2)) := HX
      replace HR1 := hide (HR1.out.aside HA.out (fun b off e => by have := N1.out b off e; omega))
      replace HR2 := hide (HR2.out.aside HA.out (fun b off e => by have := N2.out b off e; omega))
      have HT5 := hide ((HT.out.below hbd.out).apart HA.out (by omega))
      have HN5 := hide (HN.out.trans ((hbd.out.mono (by omega)).trans (HA.out.old w.heap.size (by have := hbd.out.size; omega) (Nat.le_refl _))))
      have M1 : Hid (∀ b off, b1 = some ⟨b, off, none⟩ → b ≠ w.heap.size + 1) := fun b off e => by have := N1.out b off e; omega
      have M2 : Hid (∀ b off, b2 = some ⟨b, off, none⟩ → b ≠ w.heap.size + 1) := fun b off e => by have := N2.out b off e; omega
      clear HA HX ho2
      refine wpAnyH_ready (rs := [7]) (by kernel_rfl) (by simp) ?_
      refine AllReadyH.cons (o := _) rfl (fun K hK => ?_) AllReadyH.nil
      go_simp
      refine hK.out _ _ (trivial) (fun hHeld => ?_)
      clear hK K
      refine take_set (i := 8) (v := .pointer (some ⟨w.heap.size, 12, none⟩)) rfl rfl (by kernel_rfl) (by kernel_rfl) (by kernel_rfl) (fun _ _ _ h => h) (Or.inl ⟨by kernel_rfl, fun w' hSw => ?_⟩) hHeld ?_
      · go_simp
      simp only [List.set_cons_succ, List.set_cons_zero]
      refine wpAnyH_ready (rs := [9]) (by kernel_rfl) (by simp) ?_
      refine AllReadyH.cons (o := _) rfl (fun K hK => ?_) AllReadyH.nil
      go_simp
      refine hK.out _ _ (trivial) (fun hHeld => ?_)
      clear hK K
      refine wpAnyH_done (by kernel_rfl) ?_ _
      refine NoPanic.normal ?_
      have LD := hide (load_obj Try.underlying66 infoLS rfl HS5.out.at_)
      obtain ⟨w6, hrun, ho6, ha6⟩ := store_obj (P := Try.prog) (ty := 66) (n := 13) (cs := (lcells j e b1 n d1 b2 n d2).toList) infoLS rfl rfl (lcells_one _ _ _ _ _ _ _ _) HT5.out.at_
      replace HR1 := hide (HR1.out.aside ha6 M1.out)
      replace HR2 := hide (HR2.out.aside ha6 M2.out)
      replace HN5 := hide (HN5.out.trans (ha6.old _ (HN5.out.size) (by omega)))
      have HW := hide hrun
      clear hrun ha6
      go_wp2_with (first | refine wpList_load_at 66 (.tmp 1) rfl rfl _ rfl _ LD.out ?_ | refine wpList_store_at 66 (.tmp 2) (.tmp 11) rfl rfl _ _ rfl rfl w6 HW.out ?_)
      exact ret_struct rfl rfl ho6 Try.underlying66 infoLS rfl ⟨_, _, _, _, rfl, HR1.out, HR2.out, fun b off e => by have := N1.out b off e; omega, fun b off e => by have := N2.out b off e; omega, HN5.out⟩
    · have hl := hcs.out _ hbd.out
      go_simp
      refine hK.out _ _ (trivial) (fun hHeld => ?_)
      clear hK K
      refine wpAnyH_ready (rs := [2]) (by kernel_rfl) (by simp) ?_
      refine AllReadyH.cons (o := _) rfl (fun K hK => ?_) AllReadyH.nil
      go_simp
      refine (clone_any vs _ _ _ _ (HV.out.below hbd.out) hn).mono ?_
      rintro e1 w1 ⟨b1, d1, rfl, R1, N1, hbel⟩
      replace N1 : Hid (∀ b off, b1 = some ⟨b, off, none⟩ → W.heap.size ≤ b) := fun b off e => by have := N1 b off e; have := hbd.out.size; omega
      replace hbd := hide (hbd.out.trans (hbel.mono hbd.out.size))
      have HR1 := hide R1
      clear hbel R1
      refine hK.out _ _ (trivial) (fun hHeld => ?_)
      clear hK K
      refine take_set (i := 6) (v := .pointer (some ⟨w.heap.size, 11, none⟩)) rfl rfl (by kernel_rfl) (by kernel_rfl) (by kernel_rfl) (fun _ _ _ h => h) (Or.inl ⟨by kernel_rfl, fun w' hSw => ?_⟩) hHeld ?_
      · go_simp
      simp only [List.set_cons_succ, List.set_cons_zero]
      refine wpAnyH_ready (rs := [5]) (by kernel_rfl) (by simp) ?_
      refine AllReadyH.cons (o := _) rfl (fun K hK => ?_) AllReadyH.nil
      go_simp
      refine (clone_any us _ _ _ _ (HU.out.below hbd.out) hn).mono ?_
      rintro e2 w2 ⟨b2, d2, rfl, R2, N2, hbel⟩
      replace N2 : Hid (∀ b off, b2 = some ⟨b, off, none⟩ → W.heap.size ≤ b) := fun b off e => by have := N2 b off e; have := hbd.out.size; omega
      replace HR1 := hide (HR1.out.below hbel)
      replace hbd := hide (hbd.out.trans (hbel.mono hbd.out.size))
      have HR2 := hide R2
      clear hbel R2
      refine hK.out _ _ (trivial) (fun hHeld => ?_)
      clear hK K
      have hl := hcs.out _ hbd.out
      have ho2 := HS.out.below hbd.out
      have hf2 : ∀ i, w2.frozen? ⟨w.heap.size, i, none⟩ = false := fun i => by unfold World.frozen?; rw [ho2.at_]; simp
      have HA := hide (((Apart.refl w.heap.size w2).set 11 (.slice b1 n d1)).set 12 (.slice b2 n d2))
      have HX := hide (OAt.set (OAt.set ho2 11 (.slice b1 n d1)) 12 (.slice b2 n d2))
      have HS5 : Hid (OAt ((w2.setCell ⟨w.heap.size, 11, none⟩ (.slice b1 n d1)).setCell ⟨w.heap.size, 12, none⟩ (.slice b2 n d2)) w.heap.size (lobj j e b1 n d1 b2 n d2)) := HX
      replace HR1 := hide (HR1.out.aside HA.out (fun b off e => by have := N1.out b off e; omega))
      replace HR2 := hide (HR2.out.aside HA.out (fun b off e => by have := N2.out b off e; omega))
      have HT5 := hide ((HT.out.below hbd.out).apart HA.out (by omega))
      have HN5 := hide (HN.out.trans ((hbd.out.mono (by omega)).trans (HA.out.old w.heap.size (by have := hbd.out.size; omega) (Nat.le_refl _))))
      have M1 : Hid (∀ b off, b1 = some ⟨b, off, none⟩ → b ≠ w.heap.size + 1) := fun b off e => by have := N1.out b off e; omega
      have M2 : Hid (∀ b off, b2 = some ⟨b, off, none⟩ → b ≠ w.heap.size + 1) := fun b off e => by have := N2.out b off e; omega
      clear HA HX ho2
      refine wpAnyH_ready (rs := [7]) (by kernel_rfl) (by simp) ?_
      refine AllReadyH.cons (o := _) rfl (fun K hK => ?_) AllReadyH.nil
      go_simp
      refine hK.out _ _ (trivial) (fun hHeld => ?_)
      clear hK K
      refine take_set (i := 8) (v := .pointer (some ⟨w.heap.size, 12, none⟩)) rfl rfl (by kernel_rfl) (by kernel_rfl) (by kernel_rfl) (fun _ _ _ h => h) (Or.inl ⟨by kernel_rfl, fun w' hSw => ?_⟩) hHeld ?_
      · go_simp
      simp only [List.set_cons_succ, List.set_cons_zero]
      refine wpAnyH_ready (rs := [9]) (by kernel_rfl) (by simp) ?_
      refine AllReadyH.cons (o := _) rfl (fun K hK => ?_) AllReadyH.nil
      go_simp
      refine hK.out _ _ (trivial) (fun hHeld => ?_)
      clear hK K
      refine wpAnyH_done (by kernel_rfl) ?_ _
      refine NoPanic.normal ?_
      have LD := hide (load_obj Try.underlying66 infoLS rfl HS5.out.at_)
      obtain ⟨w6, hrun, ho6, ha6⟩ := store_obj (P := Try.prog) (ty := 66) (n := 13) (cs := (lcells j e b1 n d1 b2 n d2).toList) infoLS rfl rfl (lcells_one _ _ _ _ _ _ _ _) HT5.out.at_
      replace HR1 := hide (HR1.out.aside ha6 M1.out)
      replace HR2 := hide (HR2.out.aside ha6 M2.out)
      replace HN5 := hide (HN5.out.trans (ha6.old _ (HN5.out.size) (by omega)))
      have HW := hide hrun
      clear hrun ha6
      go_wp2_with (first | refine wpList_load_at 66 (.tmp 1) rfl rfl _ rfl _ LD.out ?_ | refine wpList_store_at 66 (.tmp 2) (.tmp 11) rfl rfl _ _ rfl rfl w6 HW.out ?_)
      exact ret_struct rfl rfl ho6 Try.underlying66 infoLS rfl ⟨_, _, _, _, rfl, HR1.out, HR2.out, fun b off e => by have := N1.out b off e; omega, fun b off e => by have := N2.out b off e; omega, HN5.out⟩
  · have hl := hcs.out _ hbd.out
    go_simp
    refine hK.out _ _ (trivial) (fun hHeld => ?_)
    clear hK K
    have hl := hcs.out _ hbd.out
    refine wpAnyH_ready (rs := [1]) (by kernel_rfl) (by simp) ?_
    refine AllReadyH.cons (o := _) rfl (fun K hK => ?_) AllReadyH.nil
    go_simp
    refine hK.out _ _ (trivial) (fun hHeld => ?_)
    clear hK K
    refine wpAnyH_ready (rs := [2]) (by kernel_rfl) (by simp) ?_
    refine AllReadyH.cons (o := _) rfl (fun K hK => ?_) AllReadyH.nil
    go_simp
    refine (clone_any vs _ _ _ _ (HV.out.below hbd.out) hn).mono ?_
    rintro e1 w1 ⟨b1, d1, rfl, R1, N1, hbel⟩
    replace N1 : Hid (∀ b off, b1 = some ⟨b, off, none⟩ → W.heap.size ≤ b) := fun b off e => by have := N1 b off e; have := hbd.out.size; omega
    replace hbd := hide (hbd.out.trans (hbel.mono hbd.out.size))
    have HR1 := hide R1
    clear hbel R1
    refine hK.out _ _ (trivial) (fun hHeld => ?_)
    clear hK K
    refine take_set (i := 6) (v := .pointer (some ⟨w.heap.size, 11, none⟩)) rfl rfl (by kernel_rfl) (by kernel_rfl) (by kernel_rfl) (fun _ _ _ h => h) (Or.inl ⟨by kernel_rfl, fun w' hSw => ?_⟩) hHeld ?_
    · go_simp
    simp only [List.set_cons_succ, List.set_cons_zero]
    refine wpAnyH_ready (rs := [5]) (by kernel_rfl) (by simp) ?_
    refine AllReadyH.cons (o := _) rfl (fun K hK => ?_) AllReadyH.nil
    go_simp
    refine (clone_any us _ _ _ _ (HU.out.below hbd.out) hn).mono ?_
    rintro e2 w2 ⟨b2, d2, rfl, R2, N2, hbel⟩
    replace N2 : Hid (∀ b off, b2 = some ⟨b, off, none⟩ → W.heap.size ≤ b) := fun b off e => by have := N2 b off e; have := hbd.out.size; omega
    replace HR1 := hide (HR1.out.below hbel)
    replace hbd := hide (hbd.out.trans (hbel.mono hbd.out.size))
    have HR2 := hide R2
    clear hbel R2
    refine hK.out _ _ (trivial) (fun hHeld => ?_)
    clear hK K
    have hl := hcs.out _ hbd.out
    have ho2 := HS.out.below hbd.out
    have hf2 : ∀ i, w2.frozen? ⟨w.heap.size, i, none⟩ = false := fun i => by unfold World.frozen?; rw [ho2.at_]; simp
    have HA := hide (((Apart.refl w.heap.size w2).set 11 (.slice b1 n d1)).set 12 (.slice b2 n d2))
    have HX := hide (OAt.set (OAt.set ho2 11 (.slice b1 n d1)) 12 (.slice b2 n d2))
    have HS5 : Hid (OAt ((w2.setCell ⟨w.heap.size, 11, none⟩ (.slice b1 n d1)).setCell ⟨w.heap.size, 12, none⟩ (.slice b2 n d2)) w.heap.size (lobj j e b1 n d1 b2 n d2)) := HX
    replace HR1 := hide (HR1.out.aside HA.out (fun b off e => by have := N1.out b off e; omega))
    replace HR2 := hide (HR2.out.aside HA.out (fun b off e => by have := N2.out b off e; omega))
    have HT5 := hide ((HT.out.below hbd.out).apart HA.out (by omega))
    have HN5 := hide (HN.out.trans ((hbd.out.mono (by omega)).trans (HA.out.old w.heap.size (by have := hbd.out.size; omega) (Nat.le_refl _))))
    have M1 : Hid (∀ b off, b1 = some ⟨b, off, none⟩ → b ≠ w.heap.size + 1) := fun b off e => by have := N1.out b off e; omega
    have M2 : Hid (∀ b off, b2 = some ⟨b, off, none⟩ → b ≠ w.heap.size + 1) := fun b off e => by have := N2.out b off e; omega
    clear HA HX ho2
    refine wpAnyH_ready (rs := [7]) (by kernel_rfl) (by simp) ?_
    refine AllReadyH.cons (o := _) rfl (fun K hK => ?_) AllReadyH.nil
    go_simp
    refine hK.out _ _ (trivial) (fun hHeld => ?_)
    clear hK K
    refine take_set (i := 8) (v := .pointer (some ⟨w.heap.size, 12, none⟩)) rfl rfl (by kernel_rfl) (by kernel_rfl) (by kernel_rfl) (fun _ _ _ h => h) (Or.inl ⟨by kernel_rfl, fun w' hSw => ?_⟩) hHeld ?_
    · go_simp
    simp only [List.set_cons_succ, List.set_cons_zero]
    refine wpAnyH_ready (rs := [9]) (by kernel_rfl) (by simp) ?_
    refine AllReadyH.cons (o := _) rfl (fun K hK => ?_) AllReadyH.nil
    go_simp
    refine hK.out _ _ (trivial) (fun hHeld => ?_)
    clear hK K
    refine wpAnyH_done (by kernel_rfl) ?_ _
    refine NoPanic.normal ?_
    have LD := hide (load_obj Try.underlying66 infoLS rfl HS5.out.at_)
    obtain ⟨w6, hrun, ho6, ha6⟩ := store_obj (P := Try.prog) (ty := 66) (n := 13) (cs := (lcells j e b1 n d1 b2 n d2).toList) infoLS rfl rfl (lcells_one _ _ _ _ _ _ _ _) HT5.out.at_
    replace HR1 := hide (HR1.out.aside ha6 M1.out)
    replace HR2 := hide (HR2.out.aside ha6 M2.out)
    replace HN5 := hide (HN5.out.trans (ha6.old _ (HN5.out.size) (by omega)))
    have HW := hide hrun
    clear hrun ha6
    go_wp2_with (first | refine wpList_load_at 66 (.tmp 1) rfl rfl _ rfl _ LD.out ?_ | refine wpList_store_at 66 (.tmp 2) (.tmp 11) rfl rfl _ _ rfl rfl w6 HW.out ?_)
    exact ret_struct rfl rfl ho6 Try.underlying66 infoLS rfl ⟨_, _, _, _, rfl, HR1.out, HR2.out, fun b off e => by have := N1.out b off e; omega, fun b off e => by have := N2.out b off e; omega, HN5.out⟩
end Go.Proofs.Ytphahkjjmomjcaa
