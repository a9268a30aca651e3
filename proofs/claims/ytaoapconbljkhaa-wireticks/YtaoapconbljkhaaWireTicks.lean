/-
  ticks have sixteen bytes each, and come back as they were: up to 4096 (WireTicks is true of every input).
-/
import Derived.Test.YtaoapconbljkhaaRows
import Derived.WalkKit
import Derived.Below
import Derived.ProofKit
import Derived.OpenShut
import Derived.ShutString
import Derived.ChangeOld
import Derived.Test.YtaoapconbljkhaaWPure
import Derived.Test.YtaoapconbljkhaaWMore
namespace Go.Proofs.Ytaoapconbljkhaa.wireTicks
open Go.ChangeShapes Go.WideShapes Go.ChangeAt Go.RowKit
set_option linter.unusedVariables false

theorem own : ownKnob Try.prog.godebug = none := by kernel_rfl
theorem laidOut : laidOutB Try.prog = true := by kernel_rfl
theorem cells4 : Try.prog.cellsOf 4 = 1 := by kernel_rfl
theorem cells54 : Try.prog.cellsOf 54 = 1 := by kernel_rfl
theorem cells55 : Try.prog.cellsOf 55 = 1 := by kernel_rfl

set_option maxHeartbeats 1000000 in
theorem walk (a0 : Option Addr) (len0 cap0 : Nat) (z0 : List Int) (w : World) (w0 : IsRow .u32 w a0 len0 cap0 z0) :
    Calls Try.prog 7 #[.slice a0 len0 cap0] w fun e w' => e = .returned (.bool true) ∧ Below w.heap.size w w' := by
  have hB := w0.row
  have hwf := w0.wf
  clear w0
  generalize z0.take len0 = zs at *
  have hlen := hB.len
  have hcap := hB.cap
  unfold maxLen at hcap
  have H := hide hB
  have HWF := hide hwf
  clear hB hwf
  obtain ⟨n, hn⟩ : ∃ x, Hid (min len0 4096 = x) := ⟨_, rfl⟩
  have hn1 : n ≤ len0 := by rw [← hn.out]; omega
  have hn2 : (n : Int) ≤ 4096 := by rw [← hn.out]; omega
  have hmin : (if (len0 : Int) < 4096 then (len0 : Int) else 4096) = (n : Int) := by rw [← hn.out]; split <;> omega
  have hmin2 : (if (4096 : Int) < (len0 : Int) then (4096 : Int) else (len0 : Int)) = (n : Int) := by rw [← hn.out]; split <;> omega
  go_enter Try.func7, Try.ntmps7
  go_wp2_with fail
  refine (awake_any _).mono ?_
  rintro r v1 ⟨rfl, hb1⟩
  have HB1 := hide hb1
  clear hb1
  go_wp2
  have HB2 : Hid (∀ x ∈ zs, 0 ≤ x ∧ x ≤ 4294967295) := fun x hx => by
    have := HWF.out x hx
    simpa [Lit.wf, IntKind.min, IntKind.max, IntKind.signed, IntKind.bits] using this
  obtain ⟨i0, hi, hz0, hz1, hz2⟩ := info_parts infoE
  have hs1 := HB1.out.size
  have one : Hid (∀ (cs : List Value) (v : Ev), EventC w cs v → ∀ u ∈ cs, u.oneCell' = true) := fun cs v h => h.one.1
  clear hmin hmin2 HWF
  obtain ⟨TZ, hTZ⟩ : ∃ x, Hid (zs.map tick = x) := ⟨_, rfl⟩
  have hlZ : Hid (TZ.length = len0) := show _ = _ by rw [← hTZ.out, List.length_map, hlen]
  go_loopw [3, 20] (fun x i wr => ∃ (k d : Nat) (g : Option Addr), k ≤ n ∧ i = .int .i64 k ∧ x = .slice g k d ∧
      Hid (OwnRows (EventC w) 38 28 v1.heap.size wr (.slice g k d) (TZ.take k) ∧ Below v1.heap.size v1 wr)) (fun _ i _ => n - (intOf i).toNat)
  case atStart => exact ⟨0, 0, none, Nat.zero_le _, rfl, rfl, hide ⟨OwnRows.none _ _ _ _ _, Below.refl _ _⟩⟩
  case round =>
    obtain ⟨k, d, g, hk, rfl, rfl, hI⟩ := hrel
    have hsr := hI.out.2.size
    by_cases hlt : k < n
    · obtain ⟨b, off, rfl, hbs, hcn⟩ := (H.out.below (HB1.out.trans (hI.out.2.mono hs1))).cell k (by omega)
      have hmem : zs.getD k 0 ∈ zs := by rw [List.getD_eq_getElem?_getD, List.getElem?_eq_getElem (by omega)]; exact List.getElem_mem _
      have hx0 := HB2.out _ hmem
      have hsn : TZ.take (k + 1) = TZ.take k ++ [tick (zs.getD k 0)] := by
        rw [← hTZ.out, ← List.map_take, ← List.map_take, List.take_succ_eq_append_getElem (by omega), List.map_append, List.getD_eq_getElem?_getD, List.getElem?_eq_getElem (by omega)]
        rfl
      obtain ⟨x, hx⟩ : ∃ x, Hid (zs.getD k 0 = x) := ⟨_, rfl⟩
      rw [hx.out] at hcn hx0 hsn
      have hwr : IntKind.i64.wrap x = x := by simp [IntKind.wrap, IntKind.bits, IntKind.signed]; omega
      have HSN := hide hsn
      have hl : Hid ((TZ.take k).length = k) := show _ = _ by rw [List.length_take, hlZ.out]; omega
      have hx64 : Hid (IsI64 x) := ⟨by omega, by omega⟩
      clear hsn hmem
      go_wp2_with (at_builtin; refine wpList_append_structs (R := EventC w) _ rfl (.tmp 24) (.tmp 28) 22 rfl v1.heap.size 38 i0 (.agg (tickCs 0).toArray) 28 304 Try.underlying22 hi hz0 hz1 hz2 rfl (by omega) one.out (.slice g k d) k (TZ.take k) rfl (hI.out.1.below (below_alloc _ _) (fun cs v h => h)) hl.out (some ⟨wr.heap.size, 0, none⟩) 1 1 [tick x] rfl (RowsIn.lit (R := EventC w) wr wr.heap.size (tickCs x) 38 28 (tick x) rfl rfl (tickC w x hx64.out)) ?c1 ?c2 ?c3 ?_)
      case c1 => unfold maxLen; omega
      case c2 => omega
      case c3 => simp; omega
      intro ao5 d5 w5 hown hg
      rw [← HSN.out] at hown
      have hb5 : Below v1.heap.size v1 w5 := (hI.out.2.alloc hsr _).grown hg (by simp; omega) (fun j hj => by obtain ⟨css, _, ho⟩ := hI.out.1; exact (ho.lt j hj).1)
      have hst : Hid (OwnRows (EventC w) 38 28 v1.heap.size w5 (.slice ao5 (k + 1) d5) (TZ.take (k + 1)) ∧ Below v1.heap.size v1 w5) := ⟨hown, hb5⟩
      clear hown hg hb5 hI
      go_wp2
      go_roundw
      case rel => exact ⟨k + 1, d5, ao5, by omega, by go_num, rfl, hst⟩
      case measure => simp [intOf]; omega
    · have : k = n := by omega
      subst this
      obtain ⟨ts, hts⟩ : ∃ x, Hid (zs.take k = x) := ⟨_, rfl⟩
      have hbt : ∀ x ∈ ts, 0 ≤ x ∧ x ≤ 4294967295 := fun x hx => HB2.out x (by rw [← hts.out] at hx; exact List.mem_of_mem_take hx)
      have hlt2 : ts.length = k := by rw [← hts.out, List.length_take]; omega
      obtain ⟨T, hT⟩ : ∃ x, Hid (ts.map tick = x) := ⟨_, rfl⟩
      have hlT : T.length = k := by rw [← hT.out, List.length_map, hlt2]
      have hokT : ∀ e ∈ T, evB e = true ∧ e.Wf := fun e he => by
        rw [← hT.out] at he
        obtain ⟨s, hs, rfl⟩ := List.mem_map.1 he
        exact tick_ok (hbt s hs)
      have hnT : ∀ e ∈ T, ∀ m ∈ evNs e, IsU64 m := fun e he m hm => by
        rw [← hT.out] at he
        obtain ⟨s, hs, rfl⟩ := List.mem_map.1 he
        rw [tick_ns (hbt s hs)] at hm
        have := hbt s hs
        simp only [List.mem_cons, List.not_mem_nil, or_false] at hm
        rcases hm with rfl | rfl
        · exact ⟨by omega, by omega⟩
        · exact ⟨by omega, by omega⟩
      have hb8 := hide (bytes8_of hokT hnT)
      have hlen16 : Hid ((bytesOf T).length = 16 * k) := show _ = _ by rw [← hT.out, ticks_len ts hbt, hlt2]
      have hev : Hid (evsB T = true) := show _ = _ by rw [evsB, decide_eq_true (by omega)]; simp only [Bool.true_and]; exact List.all_eq_true.2 fun e he => (hokT e he).1
      have hdec : Hid (rDec (bytesOf T) 4096 [] ⟨0, false⟩ = (T, 16 * k, false)) := show _ = _ by
        have := dec_pre (bs := bytesOf T) T [] 4096 0 rfl (Nat.zero_le _) (by omega) hokT
        rw [this, List.nil_append, hlen16.out]
        congr 1
        rw [← hT.out]
        exact bare_ticks ts
      have hTk : TZ.take k = T := by rw [← hTZ.out, ← List.map_take, hts.out, hT.out]
      rw [hTk] at hI
      obtain ⟨ag, dg, eg, RG⟩ := hI.out.1.rows (by omega)
      rw [hlT] at eg RG
      cases eg
      have hbw := HB1.out.trans (hI.out.2.mono hs1)
      have HBW := hide hbw
      have HRG := hide (RG.mono (Below.refl _ _) fun cs v h => h.below hbw)
      have HTK : Hid (∀ e ∈ T, ∃ s, e = tick s) := fun e he => by
        rw [← hT.out] at he
        obtain ⟨s, _, hs⟩ := List.mem_map.1 he
        exact ⟨s, hs.symm⟩
      have HLT := hide hlT
      clear RG hbw hI hlT hokT hnT hbt hlt2
      go_wp2_with fail
      refine (enc_any T _ _ _ _ HRG.out).mono ?_
      rintro r v2 ⟨ao2, n2, d2, rfl, _, R2, hb⟩
      rw [hev.out]
      rw [encBs_yes hev.out] at R2
      obtain rfl : n2 = 16 * k := R2.len.symm.trans hlen16.out
      have HB2' := hide (HBW.out.trans (hb.mono HBW.out.size))
      have HR2 := hide R2
      have HRG2 := hide (HRG.out.mono hb fun cs v h => h.below hb)
      clear hb R2
      go_wp2_with fail
      refine (dec_any (bytesOf T) _ _ _ _ HR2.out hb8.out).mono ?_
      rintro r v3 ⟨ao3, n3, d3, rfl, R3, hb⟩
      rw [hdec.out] at R3 ⊢
      dsimp only at R3 ⊢
      obtain rfl : n3 = k := R3.len.symm.trans HLT.out
      have HB3 := hide (HB2'.out.trans (hb.mono HB2'.out.size))
      have HR3 := hide R3
      have HRG3 := hide (HRG2.out.mono hb fun cs v h => h.below hb)
      have hne : errV false = .nilIface := rfl
      rw [hne]
      clear hb R3 hne
      have hk16 : ((16 * n3 : Nat) : Int) = 16 * (n3 : Int) := by omega
      rw [hk16]
      go_wp2
      go_loopw [71] (fun i wr => ∃ j : Nat, j ≤ n3 ∧ i = .int .i64 j ∧ Hid (Below v3.heap.size v3 wr)) (fun i _ => n3 - (intOf i).toNat)
      case atStart => exact ⟨0, Nat.zero_le _, rfl, hide (Below.refl _ _)⟩
      case round =>
        obtain ⟨j, hj, rfl, hJ⟩ := hrel
        by_cases hlt : j < n3
        · have hjT : j < T.length := by rw [HLT.out]; exact hlt
          obtain ⟨bx, ox, cx, rfl, hbx, hcxl, hcx, hex⟩ := (HR3.out.mono hJ.out (R' := EventC wr) fun cs v h => h.below hJ.out).row j hjT
          obtain ⟨be, oe, ce, rfl, hbe, hcel, hce, hee⟩ := (HRG3.out.mono hJ.out (R' := EventC wr) fun cs v h => h.below hJ.out).row j hjT
          obtain ⟨s, hs⟩ := HTK.out T[j] (List.getElem_mem _)
          rw [hs] at hex hee
          obtain ⟨_, x1, x2, x3, rfl, _⟩ := hex
          obtain ⟨_, y1, y2, y3, rfl, _⟩ := hee
          have c0 := hcx 0 (by omega)
          have c1 := hcx 1 (by omega)
          have c2 := hce 1 (by omega)
          simp only [List.getElem?_cons_zero, List.getElem?_cons_succ, ← Nat.add_assoc, Nat.add_zero] at c0 c1 c2
          have c0 : wr.cell? ⟨bx, ox + j * 28, none⟩ = some (.int .i64 0) := c0
          have c1 : wr.cell? ⟨bx, ox + j * 28 + 1, none⟩ = some (.int .i64 s) := c1
          have c2 : wr.cell? ⟨be, oe + j * 28 + 1, none⟩ = some (.int .i64 s) := c2
          have HC : wr.drew.cell? ⟨bx, ox + j * 28, none⟩ = some (.int .i64 0) ∧ wr.drew.cell? ⟨bx, ox + j * 28 + 1, none⟩ = some (.int .i64 s) ∧ wr.drew.cell? ⟨be, oe + j * 28 + 1, none⟩ = some (.int .i64 s) := ⟨c0, c1, c2⟩
          have HJd : Hid (Below v3.heap.size v3 wr.drew) := hJ.out.drew
          clear hcx hce hJ hs
          go_wp2
          refine wp_region_noPanic ?_
          refine wp_region_held_drew (S := fun w' => w'.cell? ⟨bx, ox + j * 28, none⟩ = some (.int .i64 0) ∧ w'.cell? ⟨bx, ox + j * 28 + 1, none⟩ = some (.int .i64 s) ∧ w'.cell? ⟨be, oe + j * 28 + 1, none⟩ = some (.int .i64 s)) (by kernel_rfl) HC (fun hHeld => ?_)
          refine take_set (i := 0) (v := .slice (some ⟨bx, ox, none⟩) n3 d3) rfl rfl (by kernel_rfl) (by kernel_rfl) (by kernel_rfl) (fun _ _ _ h => h) (Or.inl ⟨by kernel_rfl, fun w' hSw => ?_⟩) hHeld ?_
          · go_simp
          simp only [List.set_cons_succ, List.set_cons_zero]
          refine take_set (i := 1) (v := .int .i64 (j : Int)) rfl rfl (by kernel_rfl) (by kernel_rfl) (by kernel_rfl) (fun _ _ _ h => h) (Or.inl ⟨by kernel_rfl, fun w' hSw => ?_⟩) hHeld ?_
          · go_simp
          simp only [List.set_cons_succ, List.set_cons_zero]
          refine take_set (i := 2) (v := .pointer (some ⟨bx, ox + j * 28, none⟩)) rfl rfl (by kernel_rfl) (by kernel_rfl) (by kernel_rfl) (fun _ _ _ h => h) (Or.inl ⟨by kernel_rfl, fun w' hSw => ?_⟩) hHeld ?_
          · go_simp
          simp only [List.set_cons_succ, List.set_cons_zero]
          refine take_set (i := 3) (v := .pointer (some ⟨bx, ox + j * 28 + 1, none⟩)) rfl rfl (by kernel_rfl) (by kernel_rfl) (by kernel_rfl) (fun _ _ _ h => h) (Or.inl ⟨by kernel_rfl, fun w' hSw => ?_⟩) hHeld ?_
          · go_simp
          simp only [List.set_cons_succ, List.set_cons_zero]
          refine take_set (i := 4) (v := .int .i64 s) rfl rfl (by kernel_rfl) (by kernel_rfl) (by kernel_rfl) (fun _ _ _ h => h) (Or.inl ⟨by kernel_rfl, fun w' hSw => ?_⟩) hHeld ?_
          · go_simp
          simp only [List.set_cons_succ, List.set_cons_zero]
          refine take_set (i := 5) (v := .slice (some ⟨be, oe, none⟩) n3 d) rfl rfl (by kernel_rfl) (by kernel_rfl) (by kernel_rfl) (fun _ _ _ h => h) (Or.inl ⟨by kernel_rfl, fun w' hSw => ?_⟩) hHeld ?_
          · go_simp
          simp only [List.set_cons_succ, List.set_cons_zero]
          refine take_set (i := 6) (v := .int .i64 (j : Int)) rfl rfl (by kernel_rfl) (by kernel_rfl) (by kernel_rfl) (fun _ _ _ h => h) (Or.inl ⟨by kernel_rfl, fun w' hSw => ?_⟩) hHeld ?_
          · go_simp
          simp only [List.set_cons_succ, List.set_cons_zero]
          refine take_set (i := 7) (v := .pointer (some ⟨be, oe + j * 28, none⟩)) rfl rfl (by kernel_rfl) (by kernel_rfl) (by kernel_rfl) (fun _ _ _ h => h) (Or.inl ⟨by kernel_rfl, fun w' hSw => ?_⟩) hHeld ?_
          · go_simp
          simp only [List.set_cons_succ, List.set_cons_zero]
          refine take_set (i := 8) (v := .pointer (some ⟨be, oe + j * 28 + 1, none⟩)) rfl rfl (by kernel_rfl) (by kernel_rfl) (by kernel_rfl) (fun _ _ _ h => h) (Or.inl ⟨by kernel_rfl, fun w' hSw => ?_⟩) hHeld ?_
          · go_simp
          simp only [List.set_cons_succ, List.set_cons_zero]
          refine take_set (i := 9) (v := .int .i64 s) rfl rfl (by kernel_rfl) (by kernel_rfl) (by kernel_rfl) (fun _ _ _ h => h) (Or.inl ⟨by kernel_rfl, fun w' hSw => ?_⟩) hHeld ?_
          · go_simp
          simp only [List.set_cons_succ, List.set_cons_zero]
          refine take_set (i := 10) (v := .bool false) rfl rfl (by kernel_rfl) (by kernel_rfl) (by kernel_rfl) (fun _ _ _ h => h) (Or.inl ⟨by kernel_rfl, fun w' hSw => ?_⟩) hHeld ?_
          · go_simp
          simp only [List.set_cons_succ, List.set_cons_zero]
          refine take_set (i := 11) (v := .bool false) rfl rfl (by kernel_rfl) (by kernel_rfl) (by kernel_rfl) (fun _ _ _ h => h) (Or.inl ⟨by kernel_rfl, fun w' hSw => ?_⟩) hHeld ?_
          · go_simp
          simp only [List.set_cons_succ, List.set_cons_zero]
          refine take_set (i := 12) (v := .slice (some ⟨bx, ox, none⟩) n3 d3) rfl rfl (by kernel_rfl) (by kernel_rfl) (by kernel_rfl) (fun _ _ _ h => h) (Or.inl ⟨by kernel_rfl, fun w' hSw => ?_⟩) hHeld ?_
          · go_simp
          simp only [List.set_cons_succ, List.set_cons_zero]
          refine take_set (i := 13) (v := .int .i64 (j : Int)) rfl rfl (by kernel_rfl) (by kernel_rfl) (by kernel_rfl) (fun _ _ _ h => h) (Or.inl ⟨by kernel_rfl, fun w' hSw => ?_⟩) hHeld ?_
          · go_simp
          simp only [List.set_cons_succ, List.set_cons_zero]
          refine take_set (i := 14) (v := .pointer (some ⟨bx, ox + j * 28, none⟩)) rfl rfl (by kernel_rfl) (by kernel_rfl) (by kernel_rfl) (fun _ _ _ h => h) (Or.inl ⟨by kernel_rfl, fun w' hSw => ?_⟩) hHeld ?_
          · go_simp
          simp only [List.set_cons_succ, List.set_cons_zero]
          refine take_set (i := 15) (v := .pointer (some ⟨bx, ox + j * 28, none⟩)) rfl rfl (by kernel_rfl) (by kernel_rfl) (by kernel_rfl) (fun _ _ _ h => h) (Or.inl ⟨by kernel_rfl, fun w' hSw => ?_⟩) hHeld ?_
          · go_simp
          simp only [List.set_cons_succ, List.set_cons_zero]
          refine take_set (i := 16) (v := .int .i64 0) rfl rfl (by kernel_rfl) (by kernel_rfl) (by kernel_rfl) (fun _ _ _ h => h) (Or.inl ⟨by kernel_rfl, fun w' hSw => ?_⟩) hHeld ?_
          · go_simp
          simp only [List.set_cons_succ, List.set_cons_zero]
          refine take_set (i := 17) (v := .bool false) rfl rfl (by kernel_rfl) (by kernel_rfl) (by kernel_rfl) (fun _ _ _ h => h) (Or.inl ⟨by kernel_rfl, fun w' hSw => ?_⟩) hHeld ?_
          · go_simp
          simp only [List.set_cons_succ, List.set_cons_zero]
          refine take_set (i := 18) (v := .bool false) rfl rfl (by kernel_rfl) (by kernel_rfl) (by kernel_rfl) (fun _ _ _ h => h) (Or.inl ⟨by kernel_rfl, fun w' hSw => ?_⟩) hHeld ?_
          · go_simp
          simp only [List.set_cons_succ, List.set_cons_zero]
          refine wpAnyH_done (by kernel_rfl) ?_ _
          refine NoPanic.normal ?_
          go_wp2
          go_roundw
          case rel => exact ⟨j + 1, by omega, by go_num, HJd⟩
          case measure => simp [intOf]; omega
        · go_wp2
          go_ret
          exact ⟨rfl, HB3.out.trans (hJ.out.mono HB3.out.size)⟩

set_option maxRecDepth 100000 in
theorem lifted (os : Os) (started : os.Started) (H : Type) (enc : TypeId × Value → H) :
    ReturnsInHanded {} Try.checked os 7 .any (Rows.wireTicksSpec.pre6 enc Try.prog Try.f7 Rows.wireTicksRow.domain false) (Rows.wireTicksSpec.post enc Try.prog Try.f7 false true false false) := by
  refine returnsInHanded_of_change (C := Try.checked) own started (by kernel_rfl) Try.func7
    (ChangeSpec.witness6 (enc := enc) (C := Try.checked) false ⟨#[], #[.slice none 0 0], []⟩ 8 (by kernel_rfl) (by kernel_rfl) (by kernel_rfl) (by kernel_rfl)) ?_
  intro W base args ds gs before hval0 hW hcnd _
  have hval : ∀ (j : Nat) t v, Try.f7.params[j]? = some t → args[j]? = some v → Value.okWide Try.prog W .any base t v := hval0
  have hW' := hW
  obtain ⟨p, q, hA0, hV, rfl, hfz, hnd⟩ := hW
  have hA : DataW.TrodAll enc Try.prog W 0 (fun _ => true) true Try.f7.params.toList args.toList ds p := hA0
  rw [Try.params7] at hA hval
  obtain ⟨v0, vs0, d0, ds0, p0, q0, hargs, rfl, rfl, h0, r0⟩ := trodAll_cons hA
  obtain ⟨rfl, rfl, rfl⟩ := trodAll_nil r0
  obtain rfl : args = #[v0] := by cases args; simp_all
  obtain ⟨rfl, rfl⟩ := trodVars_none hV
  obtain ⟨a0, len0, cap0, rfl⟩ := okWide_slice Try.underlying54 (hval 0 54 v0 rfl rfl)
  have k0 := h0
  have lt0 : ∀ x ∈ p0, x.block < W.heap.size := by obtain ⟨m, hm⟩ := k0; exact DataW.trod_lt m _ _ _ hm
  obtain ⟨z0, w0⟩ : ∃ zs, IsRow .u32 W a0 len0 cap0 zs := by
    obtain ⟨fuel, hf⟩ := h0
    rcases open_ints Try.underlying54 Try.underlying55 (by kernel_rfl) hf with ⟨hcs, _⟩ | ⟨x, l, c, zs, hcs, _, hl, hm, hz, _, hcell, hwz⟩
    · simp [Value.cells] at hcs
      obtain ⟨rfl, rfl, rfl⟩ := hcs
      exact ⟨[], .inl ⟨rfl, rfl, rfl, rfl⟩⟩
    · simp [Value.cells] at hcs
      obtain ⟨rfl, rfl, rfl⟩ := hcs
      exact ⟨zs, .inr ⟨_, rfl, hl, hm, by simpa using hz, hcell, hwz⟩⟩
  clear hA0 hval0
  refine (walk a0 len0 cap0 z0 W w0).mono fun e W' ⟨he, bel⟩ => ?_
  subst he
  exact ⟨_, rfl, _, _, _, [], _, [], hW', trodAll_mk1 (shut_bool Try.underlying4 _), (trodAll_cons_mk (Below.trod laidOut (by kernel_rfl) (of_decide_eq_true (by kernel_rfl)) k0 bel lt0) trodAll_mk0), rfl, bel.frame _, fun h => by cases h⟩

theorem over : Rows.wireTicksRow.holds Try.pinned (OpenSpec.ofChange Rows.wireTicksSpec) :=
  OpenClaim.holds_of_wide 7 Try.f7 rfl rfl rfl rfl rfl rfl rfl ⟨rfl, rfl, rfl, rfl, rfl⟩ rfl rfl rfl rfl rfl (by kernel_rfl) Try.func7 (by kernel_rfl)
    (of_decide_eq_true (by kernel_rfl)) (by unfold Func.isWrapper; first | (rw [if_pos (by decide +kernel)]; kernel_rfl) | (rw [if_neg (by decide +kernel)]; exact ⟨rfl, rfl⟩))
    (fun os started H enc _ => lifted os started H enc)

theorem proved : Rows.WireTicksSaid := over
end Go.Proofs.Ytaoapconbljkhaa.wireTicks
