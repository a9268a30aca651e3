/-
  two lists of events have the same bytes just if what counts of them is the same; one behind the other they have both's: of up to 100 each (WireTwo is true of every input).
-/
import Derived.Test.YtaoapconbljkhaaRows
import Derived.WalkKit
import Derived.Below
import Derived.ProofKit
import Derived.OpenShut
import Derived.ShutString
import Derived.ChangeOld
import Derived.Test.YtaoapconbljkhaaShapes
import Derived.Test.YtaoapconbljkhaaWAwake
namespace Go.Proofs.Ytaoapconbljkhaa.wireTwo
open Go.ChangeShapes Go.WideShapes Go.ChangeAt Go.RowKit
set_option linter.unusedVariables false

theorem own : ownKnob Try.prog.godebug = none := by kernel_rfl
theorem laidOut : laidOutB Try.prog = true := by kernel_rfl
theorem cells3 : Try.prog.cellsOf 3 = 1 := by kernel_rfl
theorem cells4 : Try.prog.cellsOf 4 = 1 := by kernel_rfl
theorem cells22 : Try.prog.cellsOf 22 = 1 := by kernel_rfl
theorem cells24 : Try.prog.cellsOf 24 = 1 := by kernel_rfl
theorem cells25 : Try.prog.cellsOf 25 = 1 := by kernel_rfl
theorem cells26 : Try.prog.cellsOf 26 = 1 := by kernel_rfl
theorem cells27 : Try.prog.cellsOf 27 = 1 := by kernel_rfl
theorem cells29 : Try.prog.cellsOf 29 = 5 := by kernel_rfl
theorem cells31 : Try.prog.cellsOf 31 = 2 := by kernel_rfl
theorem cells32 : Try.prog.cellsOf 32 = 1 := by kernel_rfl
theorem cells34 : Try.prog.cellsOf 34 = 7 := by kernel_rfl
theorem cells36 : Try.prog.cellsOf 36 = 14 := by kernel_rfl
theorem cells38 : Try.prog.cellsOf 38 = 28 := by kernel_rfl
theorem has24 : Sh.Has Try.prog (.int .i64) (.inl 24) := Try.underlying24
theorem has3 : Sh.Has Try.prog (.int .i64) (.inl 3) := Try.underlying3
theorem has25 : Sh.Has Try.prog (.int .u64) (.inl 25) := Try.underlying25
theorem has31 : Sh.Has Try.prog (.st (.pair (.int .i64) (.pair (.int .u64) .unit))) (.inl 31) := Sh.has_st Try.underlying31 (by kernel_rfl) (Sh.has_pair rfl (by kernel_rfl) has3 (Sh.has_pair rfl (by kernel_rfl) has25 Sh.has_unit))
theorem has32 : Sh.Has Try.prog (.slice (.int .i64)) (.inl 32) := Sh.has_slice Try.underlying32 (by kernel_rfl) (by decide) has3
theorem has34 : Sh.Has Try.prog (.st (.pair (.int .i64) (.pair (.int .u64) (.pair (.st (.pair (.int .i64) (.pair (.int .u64) .unit))) (.pair (.st (.pair (.int .i64) (.pair (.int .u64) .unit))) (.pair (.slice (.int .i64)) .unit)))))) (.inl 34) := Sh.has_st Try.underlying34 (by kernel_rfl) (Sh.has_pair rfl (by kernel_rfl) has3 (Sh.has_pair rfl (by kernel_rfl) has25 (Sh.has_pair rfl (by kernel_rfl) has31 (Sh.has_pair rfl (by kernel_rfl) has31 (Sh.has_pair rfl (by kernel_rfl) has32 Sh.has_unit)))))
theorem has26 : Sh.Has Try.prog (.slice (.st (.pair (.int .i64) (.pair (.int .u64) (.pair (.st (.pair (.int .i64) (.pair (.int .u64) .unit))) (.pair (.st (.pair (.int .i64) (.pair (.int .u64) .unit))) (.pair (.slice (.int .i64)) .unit))))))) (.inl 26) := Sh.has_slice Try.underlying26 (by kernel_rfl) (by decide) has34
theorem has36 : Sh.Has Try.prog (.st (.pair (.st (.pair (.int .i64) (.pair (.int .u64) (.pair (.st (.pair (.int .i64) (.pair (.int .u64) .unit))) (.pair (.st (.pair (.int .i64) (.pair (.int .u64) .unit))) (.pair (.slice (.int .i64)) .unit)))))) (.pair (.st (.pair (.int .i64) (.pair (.int .u64) (.pair (.st (.pair (.int .i64) (.pair (.int .u64) .unit))) (.pair (.st (.pair (.int .i64) (.pair (.int .u64) .unit))) (.pair (.slice (.int .i64)) .unit)))))) .unit))) (.inl 36) := Sh.has_st Try.underlying36 (by kernel_rfl) (Sh.has_pair rfl (by kernel_rfl) has34 (Sh.has_pair rfl (by kernel_rfl) has34 Sh.has_unit))
theorem has27 : Sh.Has Try.prog (.slice (.st (.pair (.st (.pair (.int .i64) (.pair (.int .u64) (.pair (.st (.pair (.int .i64) (.pair (.int .u64) .unit))) (.pair (.st (.pair (.int .i64) (.pair (.int .u64) .unit))) (.pair (.slice (.int .i64)) .unit)))))) (.pair (.st (.pair (.int .i64) (.pair (.int .u64) (.pair (.st (.pair (.int .i64) (.pair (.int .u64) .unit))) (.pair (.st (.pair (.int .i64) (.pair (.int .u64) .unit))) (.pair (.slice (.int .i64)) .unit)))))) .unit)))) (.inl 27) := Sh.has_slice Try.underlying27 (by kernel_rfl) (by decide) has36
theorem has29 : Sh.Has Try.prog (.st (.pair (.int .u64) (.pair (.int .u64) (.pair (.int .i64) (.pair (.slice (.st (.pair (.int .i64) (.pair (.int .u64) (.pair (.st (.pair (.int .i64) (.pair (.int .u64) .unit))) (.pair (.st (.pair (.int .i64) (.pair (.int .u64) .unit))) (.pair (.slice (.int .i64)) .unit))))))) (.pair (.slice (.st (.pair (.st (.pair (.int .i64) (.pair (.int .u64) (.pair (.st (.pair (.int .i64) (.pair (.int .u64) .unit))) (.pair (.st (.pair (.int .i64) (.pair (.int .u64) .unit))) (.pair (.slice (.int .i64)) .unit)))))) (.pair (.st (.pair (.int .i64) (.pair (.int .u64) (.pair (.st (.pair (.int .i64) (.pair (.int .u64) .unit))) (.pair (.st (.pair (.int .i64) (.pair (.int .u64) .unit))) (.pair (.slice (.int .i64)) .unit)))))) .unit)))) .unit)))))) (.inl 29) := Sh.has_st Try.underlying29 (by kernel_rfl) (Sh.has_pair rfl (by kernel_rfl) has25 (Sh.has_pair rfl (by kernel_rfl) has25 (Sh.has_pair rfl (by kernel_rfl) has3 (Sh.has_pair rfl (by kernel_rfl) has26 (Sh.has_pair rfl (by kernel_rfl) has27 Sh.has_unit)))))
theorem has38 : Sh.Has Try.prog (.st (.pair (.int .i64) (.pair (.int .i64) (.pair (.st (.pair (.int .u64) (.pair (.int .u64) (.pair (.int .i64) (.pair (.slice (.st (.pair (.int .i64) (.pair (.int .u64) (.pair (.st (.pair (.int .i64) (.pair (.int .u64) .unit))) (.pair (.st (.pair (.int .i64) (.pair (.int .u64) .unit))) (.pair (.slice (.int .i64)) .unit))))))) (.pair (.slice (.st (.pair (.st (.pair (.int .i64) (.pair (.int .u64) (.pair (.st (.pair (.int .i64) (.pair (.int .u64) .unit))) (.pair (.st (.pair (.int .i64) (.pair (.int .u64) .unit))) (.pair (.slice (.int .i64)) .unit)))))) (.pair (.st (.pair (.int .i64) (.pair (.int .u64) (.pair (.st (.pair (.int .i64) (.pair (.int .u64) .unit))) (.pair (.st (.pair (.int .i64) (.pair (.int .u64) .unit))) (.pair (.slice (.int .i64)) .unit)))))) .unit)))) .unit)))))) (.pair (.st (.pair (.int .i64) (.pair (.int .u64) (.pair (.st (.pair (.int .i64) (.pair (.int .u64) .unit))) (.pair (.st (.pair (.int .i64) (.pair (.int .u64) .unit))) (.pair (.slice (.int .i64)) .unit)))))) (.pair (.st (.pair (.st (.pair (.int .i64) (.pair (.int .u64) (.pair (.st (.pair (.int .i64) (.pair (.int .u64) .unit))) (.pair (.st (.pair (.int .i64) (.pair (.int .u64) .unit))) (.pair (.slice (.int .i64)) .unit)))))) (.pair (.st (.pair (.int .i64) (.pair (.int .u64) (.pair (.st (.pair (.int .i64) (.pair (.int .u64) .unit))) (.pair (.st (.pair (.int .i64) (.pair (.int .u64) .unit))) (.pair (.slice (.int .i64)) .unit)))))) .unit))) .unit)))))) (.inl 38) := Sh.has_st Try.underlying38 (by kernel_rfl) (Sh.has_pair rfl (by kernel_rfl) has24 (Sh.has_pair rfl (by kernel_rfl) has3 (Sh.has_pair rfl (by kernel_rfl) has29 (Sh.has_pair rfl (by kernel_rfl) has34 (Sh.has_pair rfl (by kernel_rfl) has36 Sh.has_unit)))))
theorem has22 : Sh.Has Try.prog (.slice (.st (.pair (.int .i64) (.pair (.int .i64) (.pair (.st (.pair (.int .u64) (.pair (.int .u64) (.pair (.int .i64) (.pair (.slice (.st (.pair (.int .i64) (.pair (.int .u64) (.pair (.st (.pair (.int .i64) (.pair (.int .u64) .unit))) (.pair (.st (.pair (.int .i64) (.pair (.int .u64) .unit))) (.pair (.slice (.int .i64)) .unit))))))) (.pair (.slice (.st (.pair (.st (.pair (.int .i64) (.pair (.int .u64) (.pair (.st (.pair (.int .i64) (.pair (.int .u64) .unit))) (.pair (.st (.pair (.int .i64) (.pair (.int .u64) .unit))) (.pair (.slice (.int .i64)) .unit)))))) (.pair (.st (.pair (.int .i64) (.pair (.int .u64) (.pair (.st (.pair (.int .i64) (.pair (.int .u64) .unit))) (.pair (.st (.pair (.int .i64) (.pair (.int .u64) .unit))) (.pair (.slice (.int .i64)) .unit)))))) .unit)))) .unit)))))) (.pair (.st (.pair (.int .i64) (.pair (.int .u64) (.pair (.st (.pair (.int .i64) (.pair (.int .u64) .unit))) (.pair (.st (.pair (.int .i64) (.pair (.int .u64) .unit))) (.pair (.slice (.int .i64)) .unit)))))) (.pair (.st (.pair (.st (.pair (.int .i64) (.pair (.int .u64) (.pair (.st (.pair (.int .i64) (.pair (.int .u64) .unit))) (.pair (.st (.pair (.int .i64) (.pair (.int .u64) .unit))) (.pair (.slice (.int .i64)) .unit)))))) (.pair (.st (.pair (.int .i64) (.pair (.int .u64) (.pair (.st (.pair (.int .i64) (.pair (.int .u64) .unit))) (.pair (.st (.pair (.int .i64) (.pair (.int .u64) .unit))) (.pair (.slice (.int .i64)) .unit)))))) .unit))) .unit))))))) (.inl 22) := Sh.has_slice Try.underlying22 (by kernel_rfl) (by decide) has38

set_option maxHeartbeats 1000000 in
theorem walk (a0 : Option Addr) (len0 cap0 : Nat) (e0 : Sh.Val (.slice (.st (.pair (.int .i64) (.pair (.int .i64) (.pair (.st (.pair (.int .u64) (.pair (.int .u64) (.pair (.int .i64) (.pair (.slice (.st (.pair (.int .i64) (.pair (.int .u64) (.pair (.st (.pair (.int .i64) (.pair (.int .u64) .unit))) (.pair (.st (.pair (.int .i64) (.pair (.int .u64) .unit))) (.pair (.slice (.int .i64)) .unit))))))) (.pair (.slice (.st (.pair (.st (.pair (.int .i64) (.pair (.int .u64) (.pair (.st (.pair (.int .i64) (.pair (.int .u64) .unit))) (.pair (.st (.pair (.int .i64) (.pair (.int .u64) .unit))) (.pair (.slice (.int .i64)) .unit)))))) (.pair (.st (.pair (.int .i64) (.pair (.int .u64) (.pair (.st (.pair (.int .i64) (.pair (.int .u64) .unit))) (.pair (.st (.pair (.int .i64) (.pair (.int .u64) .unit))) (.pair (.slice (.int .i64)) .unit)))))) .unit)))) .unit)))))) (.pair (.st (.pair (.int .i64) (.pair (.int .u64) (.pair (.st (.pair (.int .i64) (.pair (.int .u64) .unit))) (.pair (.st (.pair (.int .i64) (.pair (.int .u64) .unit))) (.pair (.slice (.int .i64)) .unit)))))) (.pair (.st (.pair (.st (.pair (.int .i64) (.pair (.int .u64) (.pair (.st (.pair (.int .i64) (.pair (.int .u64) .unit))) (.pair (.st (.pair (.int .i64) (.pair (.int .u64) .unit))) (.pair (.slice (.int .i64)) .unit)))))) (.pair (.st (.pair (.int .i64) (.pair (.int .u64) (.pair (.st (.pair (.int .i64) (.pair (.int .u64) .unit))) (.pair (.st (.pair (.int .i64) (.pair (.int .u64) .unit))) (.pair (.slice (.int .i64)) .unit)))))) .unit))) .unit)))))))) (a1 : Option Addr) (len1 cap1 : Nat) (e1 : Sh.Val (.slice (.st (.pair (.int .i64) (.pair (.int .i64) (.pair (.st (.pair (.int .u64) (.pair (.int .u64) (.pair (.int .i64) (.pair (.slice (.st (.pair (.int .i64) (.pair (.int .u64) (.pair (.st (.pair (.int .i64) (.pair (.int .u64) .unit))) (.pair (.st (.pair (.int .i64) (.pair (.int .u64) .unit))) (.pair (.slice (.int .i64)) .unit))))))) (.pair (.slice (.st (.pair (.st (.pair (.int .i64) (.pair (.int .u64) (.pair (.st (.pair (.int .i64) (.pair (.int .u64) .unit))) (.pair (.st (.pair (.int .i64) (.pair (.int .u64) .unit))) (.pair (.slice (.int .i64)) .unit)))))) (.pair (.st (.pair (.int .i64) (.pair (.int .u64) (.pair (.st (.pair (.int .i64) (.pair (.int .u64) .unit))) (.pair (.st (.pair (.int .i64) (.pair (.int .u64) .unit))) (.pair (.slice (.int .i64)) .unit)))))) .unit)))) .unit)))))) (.pair (.st (.pair (.int .i64) (.pair (.int .u64) (.pair (.st (.pair (.int .i64) (.pair (.int .u64) .unit))) (.pair (.st (.pair (.int .i64) (.pair (.int .u64) .unit))) (.pair (.slice (.int .i64)) .unit)))))) (.pair (.st (.pair (.st (.pair (.int .i64) (.pair (.int .u64) (.pair (.st (.pair (.int .i64) (.pair (.int .u64) .unit))) (.pair (.st (.pair (.int .i64) (.pair (.int .u64) .unit))) (.pair (.slice (.int .i64)) .unit)))))) (.pair (.st (.pair (.int .i64) (.pair (.int .u64) (.pair (.st (.pair (.int .i64) (.pair (.int .u64) .unit))) (.pair (.st (.pair (.int .i64) (.pair (.int .u64) .unit))) (.pair (.slice (.int .i64)) .unit)))))) .unit))) .unit)))))))) (w : World) (w0 : Sh.In (.slice (.st (.pair (.int .i64) (.pair (.int .i64) (.pair (.st (.pair (.int .u64) (.pair (.int .u64) (.pair (.int .i64) (.pair (.slice (.st (.pair (.int .i64) (.pair (.int .u64) (.pair (.st (.pair (.int .i64) (.pair (.int .u64) .unit))) (.pair (.st (.pair (.int .i64) (.pair (.int .u64) .unit))) (.pair (.slice (.int .i64)) .unit))))))) (.pair (.slice (.st (.pair (.st (.pair (.int .i64) (.pair (.int .u64) (.pair (.st (.pair (.int .i64) (.pair (.int .u64) .unit))) (.pair (.st (.pair (.int .i64) (.pair (.int .u64) .unit))) (.pair (.slice (.int .i64)) .unit)))))) (.pair (.st (.pair (.int .i64) (.pair (.int .u64) (.pair (.st (.pair (.int .i64) (.pair (.int .u64) .unit))) (.pair (.st (.pair (.int .i64) (.pair (.int .u64) .unit))) (.pair (.slice (.int .i64)) .unit)))))) .unit)))) .unit)))))) (.pair (.st (.pair (.int .i64) (.pair (.int .u64) (.pair (.st (.pair (.int .i64) (.pair (.int .u64) .unit))) (.pair (.st (.pair (.int .i64) (.pair (.int .u64) .unit))) (.pair (.slice (.int .i64)) .unit)))))) (.pair (.st (.pair (.st (.pair (.int .i64) (.pair (.int .u64) (.pair (.st (.pair (.int .i64) (.pair (.int .u64) .unit))) (.pair (.st (.pair (.int .i64) (.pair (.int .u64) .unit))) (.pair (.slice (.int .i64)) .unit)))))) (.pair (.st (.pair (.int .i64) (.pair (.int .u64) (.pair (.st (.pair (.int .i64) (.pair (.int .u64) .unit))) (.pair (.st (.pair (.int .i64) (.pair (.int .u64) .unit))) (.pair (.slice (.int .i64)) .unit)))))) .unit))) .unit))))))) w [.slice a0 len0 cap0] e0) (w1 : Sh.In (.slice (.st (.pair (.int .i64) (.pair (.int .i64) (.pair (.st (.pair (.int .u64) (.pair (.int .u64) (.pair (.int .i64) (.pair (.slice (.st (.pair (.int .i64) (.pair (.int .u64) (.pair (.st (.pair (.int .i64) (.pair (.int .u64) .unit))) (.pair (.st (.pair (.int .i64) (.pair (.int .u64) .unit))) (.pair (.slice (.int .i64)) .unit))))))) (.pair (.slice (.st (.pair (.st (.pair (.int .i64) (.pair (.int .u64) (.pair (.st (.pair (.int .i64) (.pair (.int .u64) .unit))) (.pair (.st (.pair (.int .i64) (.pair (.int .u64) .unit))) (.pair (.slice (.int .i64)) .unit)))))) (.pair (.st (.pair (.int .i64) (.pair (.int .u64) (.pair (.st (.pair (.int .i64) (.pair (.int .u64) .unit))) (.pair (.st (.pair (.int .i64) (.pair (.int .u64) .unit))) (.pair (.slice (.int .i64)) .unit)))))) .unit)))) .unit)))))) (.pair (.st (.pair (.int .i64) (.pair (.int .u64) (.pair (.st (.pair (.int .i64) (.pair (.int .u64) .unit))) (.pair (.st (.pair (.int .i64) (.pair (.int .u64) .unit))) (.pair (.slice (.int .i64)) .unit)))))) (.pair (.st (.pair (.st (.pair (.int .i64) (.pair (.int .u64) (.pair (.st (.pair (.int .i64) (.pair (.int .u64) .unit))) (.pair (.st (.pair (.int .i64) (.pair (.int .u64) .unit))) (.pair (.slice (.int .i64)) .unit)))))) (.pair (.st (.pair (.int .i64) (.pair (.int .u64) (.pair (.st (.pair (.int .i64) (.pair (.int .u64) .unit))) (.pair (.st (.pair (.int .i64) (.pair (.int .u64) .unit))) (.pair (.slice (.int .i64)) .unit)))))) .unit))) .unit))))))) w [.slice a1 len1 cap1] e1) :
    Calls Try.prog 5 #[.slice a0 len0 cap0, .slice a1 len1 cap1] w fun e w' => e = .returned (.bool true) ∧ Below w.heap.size w w' := by
  have hA := eventsC_of w0
  have hB := eventsC_of w1
  clear w0 w1
  generalize List.map toEv e0 = xs at hA
  generalize List.map toEv e1 = ys at hB
  clear e0 e1
  have hlx := hA.len
  have hly := hB.len
  have hcx := hA.cap
  have hcy := hB.cap
  unfold maxLen at hcx hcy
  have HX := hide hA
  have HY := hide hB
  clear hA hB
  go_enter Try.func5, Try.ntmps5
  go_wp2_with fail
  refine (awake_any _).mono ?_
  rintro r v1 ⟨rfl, hb1⟩
  have HB1 := hide hb1
  clear hb1
  by_cases h1 : (100 : Int) < (len0 : Int)
  · go_wp2
    go_ret
    exact ⟨rfl, HB1.out⟩
  by_cases h2 : (100 : Int) < (len1 : Int)
  · go_wp2
    go_ret
    exact ⟨rfl, HB1.out⟩
  go_wp2_with fail
  refine (enc_any xs _ _ _ _ (HX.out.mono HB1.out fun cs v h => h.below HB1.out)).mono ?_
  rintro r v2 ⟨ao2, n2, d2, rfl, hn2, R2, hb⟩
  have HB2 := hide (HB1.out.trans (hb.mono HB1.out.size))
  have HR2 := hide R2
  clear hb R2
  go_wp2_with fail
  refine (enc_any ys _ _ _ _ (HY.out.mono HB2.out fun cs v h => h.below HB2.out)).mono ?_
  rintro r v3 ⟨ao3, n3, d3, rfl, hn3, R3, hb⟩
  have HB3 := hide (HB2.out.trans (hb.mono HB2.out.size))
  have HR23 := hide (HR2.out.below hb)
  have HR3 := hide R3
  clear hb R3
  obtain ⟨i0, hi, hz0, hz1, hz2⟩ := info_parts infoE
  have one : Hid (∀ (cs : List Value) (v : Ev), EventC w cs v → ∀ u ∈ cs, u.oneCell' = true) := fun cs v h => h.one.1
  have hs3 := HB3.out.size
  go_wp2_with (at_builtin; refine wpList_append_structs (R := EventC w) _ rfl _ (.tmp 32) 22 rfl v3.heap.size 38 i0 (.agg (tickCs 0).toArray) 28 304 Try.underlying22 hi hz0 hz1 hz2 rfl (by omega) one.out (.slice none 0 0) 0 [] rfl (OwnRows.none _ _ _ _ _) rfl a0 len0 cap0 xs rfl (HX.out.mono HB3.out fun cs v h => h) ?c1 ?c2 ?c3 ?_)
  case c1 => unfold maxLen; omega
  case c2 => omega
  case c3 => exact Nat.le_refl _
  intro ao4 d4 v4 hown4 hg4
  have HB34 : Hid (Below v3.heap.size v3 v4) := (Below.refl _ _).grown hg4 (Nat.le_refl _) (fun k h => by cases h)
  have HB4 := hide (HB3.out.trans (HB34.out.mono hs3))
  have HO4 := hide hown4
  have hs4 := HB4.out.size
  clear hown4 hg4
  go_wp2_with (at_builtin; refine wpList_append_structs (R := EventC w) _ rfl (.tmp 33) (.tmp 34) 22 rfl v3.heap.size 38 i0 (.agg (tickCs 0).toArray) 28 304 Try.underlying22 hi hz0 hz1 hz2 rfl (by omega) one.out (.slice ao4 len0 d4) len0 xs rfl HO4.out hlx a1 len1 cap1 ys rfl (HY.out.mono HB4.out fun cs v h => h) ?c1 ?c2 ?c3 ?_)
  case c1 => unfold maxLen; omega
  case c2 => omega
  case c3 => exact HB34.out.size
  intro ao5 d5 v5 hown5 hg5
  have HB35 : Hid (Below v3.heap.size v3 v5) := HB34.out.grown hg5 HB34.out.size (fun k h => by obtain ⟨css, _, ho⟩ := HO4.out; exact (ho.lt k h).1)
  have HB5 := hide (HB3.out.trans (HB35.out.mono hs3))
  obtain ⟨ao', d', e5, R5⟩ := hown5.rows (by omega)
  rw [List.length_append, hlx, hly] at e5 R5
  cases e5
  have HR5 := hide (R5.mono (Below.refl _ _) fun cs v h => h.below HB5.out)
  clear hown5 hg5 R5 HO4
  go_wp2_with fail
  refine (enc_any (xs ++ ys) _ _ _ _ HR5.out).mono ?_
  rintro r v6 ⟨ao6, n6, d6, rfl, hn6, R6, hb⟩
  have HB36 := hide (HB35.out.trans (hb.mono HB35.out.size))
  have HB6 := hide (HB5.out.trans (hb.mono HB5.out.size))
  have cv6 := conv_row R6
  have cv2 := conv_row (HR23.out.below HB36.out)
  have cv3 := conv_row (HR3.out.below HB36.out)
  have heB := evsB_append xs ys (by omega)
  have hsx := strOfNums_size (encBs xs)
  have hsy := strOfNums_size (encBs ys)
  rw [(HR23.out).len] at hsx
  rw [(HR3.out).len] at hsy
  obtain ⟨q1, hq1⟩ : ∃ q, Hid (evsB xs = q) := ⟨_, rfl⟩
  obtain ⟨q2, hq2⟩ : ∃ q, Hid (evsB ys = q) := ⟨_, rfl⟩
  rw [hq1.out, hq2.out] at heB ⊢
  rw [heB]
  have hadd : q1 = true → q2 = true → strOfNums (encBs xs) ++ strOfNums (encBs ys) = strOfNums (encBs (xs ++ ys)) := fun h1 h2 => by
    rw [encBs_yes (hq1.out.trans h1), encBs_yes (hq2.out.trans h2), encBs_yes (by rw [heB, h1, h2]; rfl), strOfNums_append, bytesOf_append]
  have HADD := hide hadd
  clear hadd R6 hb heB
  obtain ⟨s1, hs1⟩ : ∃ x, Hid (strOfNums (encBs xs) = x) := ⟨_, rfl⟩
  obtain ⟨s2, hs2⟩ : ∃ x, Hid (strOfNums (encBs ys) = x) := ⟨_, rfl⟩
  obtain ⟨s3, hs3'⟩ : ∃ x, Hid (strOfNums (encBs (xs ++ ys)) = x) := ⟨_, rfl⟩
  rw [hs1.out] at cv2 hsx HADD
  rw [hs2.out] at cv3 hsy HADD
  rw [hs3'.out] at cv6 HADD
  have hS := run_string_add_sum (P := Try.prog) (w := v6) s1 s2 (by omega)
  cases q1
  · cases q2 <;> (go_wp2; go_ret; exact ⟨rfl, HB6.out⟩)
  · cases q2
    · go_wp2; go_ret; exact ⟨rfl, HB6.out⟩
    · rw [HADD.out rfl rfl] at hS
      go_wp2; go_ret; exact ⟨rfl, HB6.out⟩

set_option maxRecDepth 100000 in
theorem lifted (os : Os) (started : os.Started) (H : Type) (enc : TypeId × Value → H) :
    ReturnsInHanded {} Try.checked os 5 .any (Rows.wireTwoSpec.pre6 enc Try.prog Try.f5 Rows.wireTwoRow.domain false) (Rows.wireTwoSpec.post enc Try.prog Try.f5 false true false false) := by
  refine returnsInHanded_of_change (C := Try.checked) own started (by kernel_rfl) Try.func5
    (ChangeSpec.witness6 (enc := enc) (C := Try.checked) false ⟨#[], #[.slice none 0 0, .slice none 0 0], []⟩ 8 (by kernel_rfl) (by kernel_rfl) (by kernel_rfl) (by kernel_rfl)) ?_
  intro W base args ds gs before hval0 hW hcnd _
  have hval : ∀ (j : Nat) t v, Try.f5.params[j]? = some t → args[j]? = some v → Value.okWide Try.prog W .any base t v := hval0
  have hW' := hW
  obtain ⟨p, q, hA0, hV, rfl, hfz, hnd⟩ := hW
  have hA : DataW.TrodAll enc Try.prog W 0 (fun _ => true) true Try.f5.params.toList args.toList ds p := hA0
  rw [Try.params5] at hA hval
  obtain ⟨v0, vs0, d0, ds0, p0, q0, hargs, rfl, rfl, h0, r0⟩ := trodAll_cons hA
  obtain ⟨v1, vs1, d1, ds1, p1, q1, rfl, rfl, rfl, h1, r1⟩ := trodAll_cons r0
  obtain ⟨rfl, rfl, rfl⟩ := trodAll_nil r1
  obtain rfl : args = #[v0, v1] := by cases args; simp_all
  obtain ⟨rfl, rfl⟩ := trodVars_none hV
  obtain ⟨a0, len0, cap0, rfl⟩ := okWide_slice Try.underlying22 (hval 0 22 v0 rfl rfl)
  have k0 := h0
  have lt0 : ∀ x ∈ p0, x.block < W.heap.size := by obtain ⟨m, hm⟩ := k0; exact DataW.trod_lt m _ _ _ hm
  obtain ⟨fuel0, hf0⟩ := h0
  simp only [Value.cells] at hf0
  obtain ⟨e0, w0⟩ := (Sh.read _).1 _ _ _ _ has22 hf0
  obtain ⟨a1, len1, cap1, rfl⟩ := okWide_slice Try.underlying22 (hval 1 22 v1 rfl rfl)
  have k1 := h1
  have lt1 : ∀ x ∈ p1, x.block < W.heap.size := by obtain ⟨m, hm⟩ := k1; exact DataW.trod_lt m _ _ _ hm
  obtain ⟨fuel1, hf1⟩ := h1
  simp only [Value.cells] at hf1
  obtain ⟨e1, w1⟩ := (Sh.read _).1 _ _ _ _ has22 hf1
  clear hA0 hval0
  refine (walk a0 len0 cap0 e0 a1 len1 cap1 e1 W w0 w1).mono fun e W' ⟨he, bel⟩ => ?_
  subst he
  exact ⟨_, rfl, _, _, _, [], _, [], hW', trodAll_mk1 (shut_bool Try.underlying4 _), (trodAll_cons_mk (Below.trod laidOut (by kernel_rfl) (of_decide_eq_true (by kernel_rfl)) k0 bel lt0) (trodAll_cons_mk (Below.trod laidOut (by kernel_rfl) (of_decide_eq_true (by kernel_rfl)) k1 bel lt1) trodAll_mk0)), rfl, bel.frame _, fun h => by cases h⟩

theorem over : Rows.wireTwoRow.holds Try.pinned (OpenSpec.ofChange Rows.wireTwoSpec) :=
  OpenClaim.holds_of_wide 5 Try.f5 rfl rfl rfl rfl rfl rfl rfl ⟨rfl, rfl, rfl, rfl, rfl⟩ rfl rfl rfl rfl rfl (by kernel_rfl) Try.func5 (by kernel_rfl)
    (of_decide_eq_true (by kernel_rfl)) (by unfold Func.isWrapper; first | (rw [if_pos (by decide +kernel)]; kernel_rfl) | (rw [if_neg (by decide +kernel)]; exact ⟨rfl, rfl⟩))
    (fun os started H enc _ => lifted os started H enc)

theorem proved : Rows.WireTwoSaid := over
end Go.Proofs.Ytaoapconbljkhaa.wireTwo
